/- slices.symMergeCmpFunc on two sorted parts side by side in a row of pairs of one's own. No condition: lemmas. -/
import Derived.Test.YtadfnbmogobopaaMdC
import Derived.Test.YtadfnbmogobopaaMdD
namespace Go.Proofs.Ytadfnbmogobopaa
open Go.RowKit Go.Sort
set_option linter.all false

/-- The search for the place at which both parts are cut: what stands beside its bounds. -/
structure BdS (cur : List Pr) (p s0 r0 s r : Nat) : Prop where
  lo : s = s0 ∨ (0 < s ∧ s ≤ p + 1 ∧ ∃ x y, cur[s - 1]? = some x ∧ cur[p - (s - 1)]? = some y ∧ x.1 ≤ y.1)
  hi : r = r0 ∨ ∃ x y, cur[r]? = some x ∧ cur[p - r]? = some y ∧ y.1 < x.1
theorem BdS.start (cur : List Pr) (p s0 r0 : Nat) : BdS cur p s0 r0 s0 r0 := ⟨.inl rfl, .inl rfl⟩
theorem BdS.up {cur : List Pr} {p s0 r0 s r c : Nat} {x y : Pr} (h : BdS cur p s0 r0 s r) (hc : c ≤ p) (hx : cur[c]? = some x) (hy : cur[p - c]? = some y) (hxy : ¬ y.1 < x.1) : BdS cur p s0 r0 (c + 1) r :=
  ⟨.inr ⟨by omega, by omega, x, y, hx, hy, by omega⟩, h.hi⟩
theorem BdS.down {cur : List Pr} {p s0 r0 s r c : Nat} {x y : Pr} (h : BdS cur p s0 r0 s r) (hx : cur[c]? = some x) (hy : cur[p - c]? = some y) (hxy : y.1 < x.1) : BdS cur p s0 r0 s c :=
  ⟨h.lo, .inr ⟨x, y, hx, hy, hxy⟩⟩

/-- Both parts are cut. -/
structure SCut (U V : List Pr) (a m s en : Nat) (U1 U2 V1 V2 : List Pr) : Prop where
  hu : U = U1 ++ U2
  hv : V = V1 ++ V2
  h1 : a + U1.length = s
  h2 : m + V1.length = en
  le : ∀ u ∈ U1, ∀ v ∈ V2, u.1 ≤ v.1
  lt : ∀ u ∈ U2, ∀ v ∈ V1, v.1 < u.1
theorem BdS.cut {A U V B : List Pr} {a m b mid p s0 r0 s en : Nat} (h : BdS (A ++ U ++ V ++ B) p s0 r0 s s) (ha : A.length = a) (hm : a + U.length = m) (hb : m + V.length = b) (hU : Le U) (hV : Le V) (hp : mid + m - 1 = p)
    (h0 : (mid < m ∧ mid + m - b = s0 ∧ mid = r0) ∨ (m ≤ mid ∧ a = s0 ∧ m = r0)) (hs1 : s0 ≤ s) (hs2 : s ≤ r0) (hmid : a < mid) (hmid2 : mid < b) (hmidb : mid + mid ≤ a + b) (hen : mid + m - s = en) (hUl : 0 < U.length) (hVl : 0 < V.length) (hma : a + b ≤ mid + mid + 1) :
    ∃ U1 U2 V1 V2, SCut U V a m s en U1 U2 V1 V2 := by
  have hsm : s ≤ m := by omega
  have hsmid : s ≤ mid := by omega
  have hsa : a ≤ s := by omega
  have he : mid - s ≤ V.length := by omega
  have gl : ∀ i, a ≤ i → i < m → (A ++ U ++ V ++ B)[i]? = U[i - a]? := fun i h1 h2 => at_left ha h1 (by omega)
  have gr : ∀ i, m ≤ i → i < b → (A ++ U ++ V ++ B)[i]? = V[i - m]? := fun i h1 h2 => at_right (by omega) h1 (by omega)
  have k := srch hU hV (s - a) (mid - s) (by
      rcases h.lo with e | ⟨h1, h1', x, y, hx, hy, hxy⟩
      · rcases h0 with ⟨_, e0, _⟩ | ⟨_, e0, _⟩
        · exact .inr (.inl (by omega))
        · exact .inl (by omega)
      · by_cases e1 : s - a = 0
        · exact .inl e1
        by_cases e2 : V.length ≤ mid - s
        · exact .inr (.inl e2)
        rw [gl _ (by omega) (by omega)] at hx
        rw [gr _ (by omega) (by omega)] at hy
        exact .inr (.inr ⟨x, y, by rw [← hx]; congr 1; omega, by rw [← hy]; congr 1; omega, hxy⟩)) (by
      rcases h.hi with e | ⟨x, y, hx, hy, hxy⟩
      · rcases h0 with ⟨_, _, e0⟩ | ⟨_, _, e0⟩
        · exact .inl (by omega)
        · exact .inr (.inl (by omega))
      · by_cases e1 : mid - s = 0
        · exact .inl e1
        by_cases e2 : U.length ≤ s - a
        · exact .inr (.inl e2)
        rw [gl _ (by omega) (by omega)] at hx
        rw [gr _ (by omega) (by omega)] at hy
        exact .inr (.inr ⟨x, y, hx, by rw [← hy]; congr 1; omega, hxy⟩))
  exact ⟨U.take (s - a), U.drop (s - a), V.take (mid - s), V.drop (mid - s), (List.take_append_drop _ _).symm, (List.take_append_drop _ _).symm, by rw [List.length_take]; omega, by rw [List.length_take]; omega, k.1, k.2⟩

theorem le_stb (U V : List Pr) (hU : Le U) (hV : Le V) (h : U = [] ∨ V = []) : Le (U ++ V) := by
  rcases h with rfl | rfl
  · simpa using hV
  · simpa using hU
theorem nil_or (l : List Pr) : l = [] ∨ 0 < l.length := by cases l <;> simp

theorem sym_flat (A U1 U2 V1 V2 B : List Pr) (h : U2 = [] ∨ V1 = []) : A ++ (U1 ++ U2) ++ (V1 ++ V2) ++ B = A ++ U1 ++ V1 ++ (U2 ++ V2 ++ B) := by
  rcases h with rfl | rfl <;> simp
/-- What the contract says of a part not longer than k. -/
def SymOk (k : Nat) : Prop := ∀ (g cap n a m b : Nat) (A U V B : List Pr) (S : Nat → Prop) (w w0 : World), Wk2 w0 S g n cap w (A ++ U ++ V ++ B) → n ≤ 10000000 → A.length = a → a + U.length = m → m + V.length = b → Le U → Le V → 0 < U.length → 0 < V.length → U.length + V.length ≤ k →
    Calls Try.prog 67 #[.slice (some ⟨g, 0, none⟩) n cap, .int .i64 a, .int .i64 m, .int .i64 b, .func (.func 39) #[] #[]] w fun e w' => e = .returned (.tuple #[]) ∧ MrgIs w0 S g n cap A U V B w'

set_option maxRecDepth 100000 in
set_option maxHeartbeats 16000000 in
theorem sym_step (k : Nat) (ih : SymOk k) (g cap n a m b : Nat) (A U V B : List Pr) (S : Nat → Prop) (w w0 : World) (h : Wk2 w0 S g n cap w (A ++ U ++ V ++ B)) (hl : n ≤ 10000000) (ha : A.length = a) (hm : a + U.length = m) (hb : m + V.length = b) (hU : Le U) (hV : Le V) (hU0 : 0 < U.length) (hV0 : 0 < V.length) (hU1 : ¬ U.length = 1) (hV1 : ¬ V.length = 1) (hk : U.length + V.length ≤ k + 1) :
    Calls Try.prog 67 #[.slice (some ⟨g, 0, none⟩) n cap, .int .i64 a, .int .i64 m, .int .i64 b, .func (.func 39) #[] #[]] w fun e w' => e = .returned (.tuple #[]) ∧ MrgIs w0 S g n cap A U V B w' := by
  have HS := Lib.hid h
  have hbn : b ≤ n := by have := h.len; simp only [List.length_append] at this; omega
  obtain ⟨mid, hmid⟩ : ∃ mid : Nat, (a + b) / 2 = mid := ⟨_, rfl⟩
  have hmidI : ((a : Int) + (b : Int)) / 2 = (mid : Int) := by omega
  have hmid1 : a < mid := by omega
  have hmid2 : mid < b := by omega
  obtain ⟨p, hp⟩ : ∃ p : Nat, mid + m - 1 = p := ⟨_, rfl⟩
  have hpI : (mid : Int) + (m : Int) - 1 = (p : Int) := by omega
  have HC : Hid (∀ s0 r0 s en, BdS (A ++ U ++ V ++ B) p s0 r0 s s → ((mid < m ∧ mid + m - b = s0 ∧ mid = r0) ∨ (m ≤ mid ∧ a = s0 ∧ m = r0)) → s0 ≤ s → s ≤ r0 → mid + m - s = en → ∃ U1 U2 V1 V2, SCut U V a m s en U1 U2 V1 V2) :=
    Lib.hid (fun s0 r0 s en h1 h2 h3 h4 h5 => h1.cut ha hm hb hU hV hp h2 h3 h4 hmid1 hmid2 (by omega) h5 hU0 hV0 (by omega))
  have HG : Hid (∀ U1 U2 V1 V2, U = U1 ++ U2 → V = V1 ++ V2 → Le (U1 ++ U2) ∧ Le (V1 ++ V2)) := Lib.hid (fun U1 U2 V1 V2 e1 e2 => ⟨by rw [← e1]; exact hU, by rw [← e2]; exact hV⟩)
  have HK := Lib.hid ih
  have HA := Lib.hid ha
  have HUL : Hid (a + U.length = m ∧ m + V.length = b ∧ U.length + V.length ≤ k + 1) := Lib.hid ⟨hm, hb, hk⟩
  have hmab : ((m : Int) - (a : Int) == 1) = false := by
    have : ¬ (m : Int) - (a : Int) = 1 := by omega
    simp [this]
  have hbmb : ((b : Int) - (m : Int) == 1) = false := by
    have : ¬ (b : Int) - (m : Int) = 1 := by omega
    simp [this]
  have mixed : Try.prog.follows .mixedOrders = true := by kernel_rfl
  have hma' : a < m := by omega
  have hmb' : m < b := by omega
  clear h ha hU hV hU1 hV1 hk hm hb hU0 hV0 ih hmid
  by_cases hmm : mid < m
  · obtain ⟨s0, hs0⟩ : ∃ s0 : Nat, mid + m - b = s0 := ⟨_, rfl⟩
    obtain ⟨r0, hr0⟩ : ∃ r0 : Nat, mid = r0 := ⟨_, rfl⟩
    have hsI : (mid : Int) + (m : Int) - (b : Int) = (s0 : Int) := by omega
    have hg : (mid : Int) < (m : Int) := by omega
    have hgd : decide ((m : Int) > (mid : Int)) = true := decide_eq_true (by omega)
    have hsb : a ≤ s0 ∧ s0 ≤ mid ∧ r0 ≤ m ∧ r0 ≤ mid := by omega
    subst hr0
    have HZ : Hid (mid < m ∧ mid + m - b = s0) := Lib.hid ⟨by omega, hs0⟩
    obtain ⟨hsb1, hsb2, hsb3, hsb4⟩ := hsb
    go_enter Try.func67, Try.ntmps67
    go_wp2_with (fail)
    go_loopw [20, 21] (fun x y wr => ∃ (s r : Nat), x = .int .i64 s ∧ y = .int .i64 r ∧ s0 ≤ s ∧ s ≤ r ∧ r ≤ mid ∧ BdS (A ++ U ++ V ++ B) p s0 mid s r ∧ Wk2 w0 S g n cap wr (A ++ U ++ V ++ B)) (fun x y _ => (intOf y).toNat - (intOf x).toNat)
    case atStart => exact ⟨s0, mid, rfl, rfl, Nat.le_refl _, by omega, Nat.le_refl _, BdS.start _ _ _ _, HS.out⟩
    case round =>
      clear HS
      obtain ⟨s, r, rfl, rfl, hs1, hsr, hr1, hBd, hW⟩ := hrel
      have HBd := Lib.hid hBd
      have HW := Lib.hid hW
      clear hBd hW
      by_cases hij : s < r
      · generalize A ++ U ++ V ++ B = cur at *
        obtain ⟨c, hh⟩ : ∃ c : Nat, (s + r) / 2 = c := ⟨_, rfl⟩
        have hhI : ((s : Int) + (r : Int)) / 2 = (c : Int) := by omega
        have h1 : s ≤ c := by omega
        have h2 : c < r := by omega
        have hij' : (s : Int) < (r : Int) := by omega
        have hh0 : (0 : Int) ≤ (c : Int) := by omega
        have hhl : (c : Int) < (n : Int) := by omega
        obtain ⟨y, hy⟩ : ∃ y : Nat, p - c = y := ⟨_, rfl⟩
        have hyI : (p : Int) - (c : Int) = (y : Int) := by omega
        have hyI2 : (mid : Int) + (m : Int) - 1 - (c : Int) = (y : Int) := by omega
        have ry : IntKind.i64.wrap ((p : Int) - (c : Int)) = (y : Int) := by rw [IntKind.wrap_i64]; omega
        have ry2 : IntKind.i64.wrap (y : Int) = (y : Int) := by rw [IntKind.wrap_i64]; omega
        have hy0 : (0 : Int) ≤ (y : Int) := by omega
        have hyl : (y : Int) < (n : Int) := by omega
        obtain ⟨q, hq⟩ : ∃ q, cur[c]? = some q := ⟨_, List.getElem?_eq_getElem (by rw [HW.out.len]; omega)⟩
        obtain ⟨z, hz⟩ : ∃ z, cur[y]? = some z := ⟨_, List.getElem?_eq_getElem (by rw [HW.out.len]; omega)⟩
        obtain ⟨g0, g1⟩ := HW.out.cellG c q hq
        obtain ⟨g2, g3⟩ := HW.out.cellG y z hz
        rw [← hy] at hz
        obtain ⟨qk, qv⟩ := q
        obtain ⟨zk, zv⟩ := z
        dsimp only at g0 g1 g2 g3
        have cc := fun W => new1_any zk zv qk qv W
        have hcp : c ≤ p := by omega
        by_cases hpq : zk < qk
        · obtain ⟨t, ht, htn⟩ : ∃ t, cmpI zk qk = t ∧ t < 0 := ⟨_, cmpI_neg hpq, by decide⟩
          rw [ht] at cc
          have hzd : decide (t < 0) = true := decide_eq_true htn
          have hzb : (!decide (t < 0)) = false := by rw [hzd]; rfl
          have HN := Lib.hid (HBd.out.down hq hz hpq)
          clear hq hz hpq ht HBd hy
          go_wp2_with (fail)
          go_quiet_grown (first | (go_at_call 39; exact Calls.grown_of (cc _)))
          have HW2 := Lib.hid (HW.out.grown nq osq)
          clear g0 g1 g2 g3 HW
          generalize grow (wr.drewN nq) osq = w2 at HW2 ⊢
          clear nq osq
          go_wp2_with (fail)
          go_roundw
          case rel => exact ⟨s, c, rfl, by go_num, hs1, by omega, by omega, HN.out, HW2.out⟩
          case measure => simp [intOf]; omega
        · obtain ⟨t, ht, htn⟩ := cmpI_nneg hpq
          rw [ht] at cc
          have hzd : decide (t < 0) = false := decide_eq_false htn
          have hzb : (!decide (t < 0)) = true := by rw [hzd]; rfl
          have HN := Lib.hid (HBd.out.up hcp hq hz hpq)
          clear hq hz hpq ht HBd hy
          go_wp2_with (fail)
          go_quiet_grown (first | (go_at_call 39; exact Calls.grown_of (cc _)))
          have HW2 := Lib.hid (HW.out.grown nq osq)
          clear g0 g1 g2 g3 HW
          generalize grow (wr.drewN nq) osq = w2 at HW2 ⊢
          clear nq osq
          go_wp2_with (fail)
          go_roundw
          case rel => exact ⟨c + 1, r, by go_num, rfl, by omega, by omega, by omega, HN.out, HW2.out⟩
          case measure => simp [intOf]; omega
      · obtain rfl : s = r := by omega
        have hij' : ¬ (s : Int) < (s : Int) := by omega
        obtain ⟨en, hen⟩ : ∃ en : Nat, mid + m - s = en := ⟨_, rfl⟩
        have henI : (mid : Int) + (m : Int) - (s : Int) = (en : Int) := by omega
        obtain ⟨U1, U2, V1, V2, hcut⟩ := HC.out _ _ s en HBd.out (.inl ⟨HZ.out.1, HZ.out.2, rfl⟩) hs1 hr1 hen
        obtain ⟨rfl, rfl, e1, e2, L1, L2⟩ := hcut
        obtain ⟨GU, GV⟩ := HG.out _ _ _ _ rfl rfl
        obtain ⟨z1, z2, z3⟩ := HUL.out
        rw [List.length_append] at z1 z2 z3
        rw [List.length_append] at z3
        have GU1 := Le.app.1 GU
        have GV1 := Le.app.1 GV
        have x1 : s + U2.length = m := by omega
        have x2 : en + V2.length = b := by omega
        have x3 : s + V1.length = mid := by omega
        have x4 : mid + U2.length = en := by omega
        have c1 : ∀ W, Wk2 w0 S g n cap W (A ++ (U1 ++ U2) ++ (V1 ++ V2) ++ B) → 0 < U2.length → 0 < V1.length → Calls Try.prog 71 #[.slice (some ⟨g, 0, none⟩) n cap, .int .i64 s, .int .i64 m, .int .i64 en, .func (.func 39) #[] #[]] W fun e w' => e = .returned (.tuple #[]) ∧ Wk2 w0 S g n cap w' (A ++ U1 ++ V1 ++ (U2 ++ V2 ++ B)) :=
          fun W hw q1 q2 => (rot_any g cap n s m en (A ++ U1) U2 V1 (V2 ++ B) S _ W w0 (by simpa only [List.append_assoc] using hw) hl (by rw [List.length_append, HA.out]; omega) x1 e2 q1 q2).mono (fun e w' hh => ⟨hh.1, by simpa only [List.append_assoc] using hh.2⟩)
        have c2 : ∀ W, Wk2 w0 S g n cap W (A ++ U1 ++ V1 ++ (U2 ++ V2 ++ B)) → 0 < U1.length → 0 < V1.length → Calls Try.prog 67 #[.slice (some ⟨g, 0, none⟩) n cap, .int .i64 a, .int .i64 s, .int .i64 mid, .func (.func 39) #[] #[]] W fun e w' => e = .returned (.tuple #[]) ∧ MrgIs w0 S g n cap A U1 V1 (U2 ++ V2 ++ B) w' :=
          fun W hw q1 q2 => HK.out g cap n a s mid A U1 V1 (U2 ++ V2 ++ B) S W w0 hw hl HA.out e1 x3 GU1.1 GV1.1 q1 q2 (by omega)
        have c3 : ∀ W X1, X1.length = U1.length + V1.length → Wk2 w0 S g n cap W (A ++ X1 ++ (U2 ++ V2 ++ B)) → 0 < U2.length → 0 < V2.length → Calls Try.prog 67 #[.slice (some ⟨g, 0, none⟩) n cap, .int .i64 mid, .int .i64 en, .int .i64 b, .func (.func 39) #[] #[]] W fun e w' => e = .returned (.tuple #[]) ∧ MrgIs w0 S g n cap (A ++ X1) U2 V2 B w' :=
          fun W X1 hx hw q1 q2 => HK.out g cap n mid en b (A ++ X1) U2 V2 B S W w0 (by simpa only [List.append_assoc] using hw) hl (by rw [List.length_append, HA.out]; omega) x4 x2 GU1.2.1 GV1.2.1 q1 q2 (by omega)
        have HD : Hid (∀ X1 X2, Le X1 → Stb (U1 ++ V1) X1 → Le X2 → Stb (U2 ++ V2) X2 → X1.length = U1.length + V1.length → X2.length = U2.length + V2.length → ∀ W, Wk2 w0 S g n cap W (A ++ X1 ++ X2 ++ B) → MrgIs w0 S g n cap A (U1 ++ U2) (V1 ++ V2) B W) :=
          Lib.hid (fun X1 X2 l1 s1 l2 s2 n1 n2 W hw => ⟨X1 ++ X2, by simp only [List.length_append]; omega, (mrg L1 L2 GU GV l1 s1 l2 s2).1, (mrg L1 L2 GU GV l1 s1 l2 s2).2, by simpa only [List.append_assoc] using hw⟩)
        have HQ : Hid (Le U1 ∧ Le U2 ∧ Le V1 ∧ Le V2) := Lib.hid ⟨GU1.1, GU1.2.1, GV1.1, GV1.2.1⟩
        have HZ1 := Lib.hid z1
        have HZ2 := Lib.hid z2
        clear GU GV GU1 GV1 L1 L2 HC HG HK HBd HUL HZ z1 z2 z3
        have HN := Lib.hid (And.intro e1 (And.intro e2 (And.intro x1 (And.intro x2 (And.intro x3 x4)))))
        rcases Nat.eq_zero_or_pos U1.length with u1 | u1
        · rcases Nat.eq_zero_or_pos U2.length with u2 | u2
          · rcases Nat.eq_zero_or_pos V1.length with v1 | v1
            · rcases Nat.eq_zero_or_pos V2.length with v2 | v2
              · exfalso; omega
              · exfalso; omega
            · rcases Nat.eq_zero_or_pos V2.length with v2 | v2
              · exfalso; omega
              · exfalso; omega
          · rcases Nat.eq_zero_or_pos V1.length with v1 | v1
            · rcases Nat.eq_zero_or_pos V2.length with v2 | v2
              · exfalso; omega
              · have d1 : decide ((s : Int) < (m : Int)) = true := decide_eq_true (by omega)
                have d1p : (s : Int) < (m : Int) := by omega
                have d2 : decide ((m : Int) < (en : Int)) = false := decide_eq_false (by omega)
                have d2p : ¬ (m : Int) < (en : Int) := by omega
                have d3 : decide ((a : Int) < (s : Int)) = false := decide_eq_false (by omega)
                have d3p : ¬ (a : Int) < (s : Int) := by omega
                have d4 : decide ((s : Int) < (mid : Int)) = false := decide_eq_false (by omega)
                have d4p : ¬ (s : Int) < (mid : Int) := by omega
                have d5 : decide ((mid : Int) < (en : Int)) = true := decide_eq_true (by omega)
                have d5p : (mid : Int) < (en : Int) := by omega
                have d6 : decide ((en : Int) < (b : Int)) = true := decide_eq_true (by omega)
                have d6p : (en : Int) < (b : Int) := by omega
                have H1 : Hid (Wk2 w0 S g n cap wr (A ++ U1 ++ V1 ++ (U2 ++ V2 ++ B))) := Lib.hid (by rw [← sym_flat A U1 U2 V1 V2 B (.inr (List.eq_nil_of_length_eq_zero v1))]; exact HW.out)
                have H2 : Hid (∃ X1, X1.length = U1.length + V1.length ∧ Le X1 ∧ Stb (U1 ++ V1) X1 ∧ Wk2 w0 S g n cap _ (A ++ X1 ++ (U2 ++ V2 ++ B))) := Lib.hid ⟨U1 ++ V1, List.length_append, le_stb U1 V1 HQ.out.1 HQ.out.2.2.1 (.inl (List.eq_nil_of_length_eq_zero u1)), Stb.refl _, by simpa only [List.append_assoc] using H1.out⟩
                go_wp2_with (first
                  | (go_at_call 67; (obtain ⟨X1, n1, l1, s1, hW2⟩ := H2.out; (with_reducible refine (c3 _ X1 n1 hW2 u2 v2).mono ?_); rintro e w4 ⟨rfl, X2, n2, l2, s2, hW3⟩; have H3 := Lib.hid (HD.out X1 X2 l1 s1 l2 s2 n1 n2 _ hW3))))
                first | done | (go_end0; exact ⟨rfl, H3.out⟩)
            · rcases Nat.eq_zero_or_pos V2.length with v2 | v2
              · have d1 : decide ((s : Int) < (m : Int)) = true := decide_eq_true (by omega)
                have d1p : (s : Int) < (m : Int) := by omega
                have d2 : decide ((m : Int) < (en : Int)) = true := decide_eq_true (by omega)
                have d2p : (m : Int) < (en : Int) := by omega
                have d3 : decide ((a : Int) < (s : Int)) = false := decide_eq_false (by omega)
                have d3p : ¬ (a : Int) < (s : Int) := by omega
                have d4 : decide ((s : Int) < (mid : Int)) = true := decide_eq_true (by omega)
                have d4p : (s : Int) < (mid : Int) := by omega
                have d5 : decide ((mid : Int) < (en : Int)) = true := decide_eq_true (by omega)
                have d5p : (mid : Int) < (en : Int) := by omega
                have d6 : decide ((en : Int) < (b : Int)) = false := decide_eq_false (by omega)
                have d6p : ¬ (en : Int) < (b : Int) := by omega
                go_wp2_with (first
                  | (go_at_call 71; ((with_reducible refine (c1 _ HW.out u2 v1).mono ?_); rintro e w2 ⟨rfl, hW1⟩; have H1 := Lib.hid hW1; clear hW1; have H2 : Hid (∃ X1, X1.length = U1.length + V1.length ∧ Le X1 ∧ Stb (U1 ++ V1) X1 ∧ Wk2 w0 S g n cap _ (A ++ X1 ++ (U2 ++ V2 ++ B))) := Lib.hid ⟨U1 ++ V1, List.length_append, le_stb U1 V1 HQ.out.1 HQ.out.2.2.1 (.inl (List.eq_nil_of_length_eq_zero u1)), Stb.refl _, by simpa only [List.append_assoc] using H1.out⟩)))
                first | done | (go_end0; obtain ⟨X1, n1, l1, s1, hW2⟩ := H2.out; exact ⟨rfl, HD.out X1 (U2 ++ V2) l1 s1 (le_stb U2 V2 HQ.out.2.1 HQ.out.2.2.2 (.inr (List.eq_nil_of_length_eq_zero v2))) (Stb.refl _) n1 List.length_append _ (by simpa only [List.append_assoc] using hW2)⟩)
              · have d1 : decide ((s : Int) < (m : Int)) = true := decide_eq_true (by omega)
                have d1p : (s : Int) < (m : Int) := by omega
                have d2 : decide ((m : Int) < (en : Int)) = true := decide_eq_true (by omega)
                have d2p : (m : Int) < (en : Int) := by omega
                have d3 : decide ((a : Int) < (s : Int)) = false := decide_eq_false (by omega)
                have d3p : ¬ (a : Int) < (s : Int) := by omega
                have d4 : decide ((s : Int) < (mid : Int)) = true := decide_eq_true (by omega)
                have d4p : (s : Int) < (mid : Int) := by omega
                have d5 : decide ((mid : Int) < (en : Int)) = true := decide_eq_true (by omega)
                have d5p : (mid : Int) < (en : Int) := by omega
                have d6 : decide ((en : Int) < (b : Int)) = true := decide_eq_true (by omega)
                have d6p : (en : Int) < (b : Int) := by omega
                go_wp2_with (first
                  | (go_at_call 71; ((with_reducible refine (c1 _ HW.out u2 v1).mono ?_); rintro e w2 ⟨rfl, hW1⟩; have H1 := Lib.hid hW1; clear hW1; have H2 : Hid (∃ X1, X1.length = U1.length + V1.length ∧ Le X1 ∧ Stb (U1 ++ V1) X1 ∧ Wk2 w0 S g n cap _ (A ++ X1 ++ (U2 ++ V2 ++ B))) := Lib.hid ⟨U1 ++ V1, List.length_append, le_stb U1 V1 HQ.out.1 HQ.out.2.2.1 (.inl (List.eq_nil_of_length_eq_zero u1)), Stb.refl _, by simpa only [List.append_assoc] using H1.out⟩))
                  | (go_at_call 67; (obtain ⟨X1, n1, l1, s1, hW2⟩ := H2.out; (with_reducible refine (c3 _ X1 n1 hW2 u2 v2).mono ?_); rintro e w4 ⟨rfl, X2, n2, l2, s2, hW3⟩; have H3 := Lib.hid (HD.out X1 X2 l1 s1 l2 s2 n1 n2 _ hW3))))
                first | done | (go_end0; exact ⟨rfl, H3.out⟩)
        · rcases Nat.eq_zero_or_pos U2.length with u2 | u2
          · rcases Nat.eq_zero_or_pos V1.length with v1 | v1
            · rcases Nat.eq_zero_or_pos V2.length with v2 | v2
              · exfalso; omega
              · have d1 : decide ((s : Int) < (m : Int)) = false := decide_eq_false (by omega)
                have d1p : ¬ (s : Int) < (m : Int) := by omega
                have d2 : decide ((m : Int) < (en : Int)) = false := decide_eq_false (by omega)
                have d2p : ¬ (m : Int) < (en : Int) := by omega
                have d3 : decide ((a : Int) < (s : Int)) = true := decide_eq_true (by omega)
                have d3p : (a : Int) < (s : Int) := by omega
                have d4 : decide ((s : Int) < (mid : Int)) = false := decide_eq_false (by omega)
                have d4p : ¬ (s : Int) < (mid : Int) := by omega
                have d5 : decide ((mid : Int) < (en : Int)) = false := decide_eq_false (by omega)
                have d5p : ¬ (mid : Int) < (en : Int) := by omega
                have d6 : decide ((en : Int) < (b : Int)) = true := decide_eq_true (by omega)
                have d6p : (en : Int) < (b : Int) := by omega
                have H1 : Hid (Wk2 w0 S g n cap wr (A ++ U1 ++ V1 ++ (U2 ++ V2 ++ B))) := Lib.hid (by rw [← sym_flat A U1 U2 V1 V2 B (.inl (List.eq_nil_of_length_eq_zero u2))]; exact HW.out)
                have H2 : Hid (∃ X1, X1.length = U1.length + V1.length ∧ Le X1 ∧ Stb (U1 ++ V1) X1 ∧ Wk2 w0 S g n cap _ (A ++ X1 ++ (U2 ++ V2 ++ B))) := Lib.hid ⟨U1 ++ V1, List.length_append, le_stb U1 V1 HQ.out.1 HQ.out.2.2.1 (.inr (List.eq_nil_of_length_eq_zero v1)), Stb.refl _, by simpa only [List.append_assoc] using H1.out⟩
                go_wp2_with (first
                  | fail)
                first | done | (go_end0; obtain ⟨X1, n1, l1, s1, hW2⟩ := H2.out; exact ⟨rfl, HD.out X1 (U2 ++ V2) l1 s1 (le_stb U2 V2 HQ.out.2.1 HQ.out.2.2.2 (.inl (List.eq_nil_of_length_eq_zero u2))) (Stb.refl _) n1 List.length_append _ (by simpa only [List.append_assoc] using hW2)⟩)
            · rcases Nat.eq_zero_or_pos V2.length with v2 | v2
              · have d1 : decide ((s : Int) < (m : Int)) = false := decide_eq_false (by omega)
                have d1p : ¬ (s : Int) < (m : Int) := by omega
                have d2 : decide ((m : Int) < (en : Int)) = true := decide_eq_true (by omega)
                have d2p : (m : Int) < (en : Int) := by omega
                have d3 : decide ((a : Int) < (s : Int)) = true := decide_eq_true (by omega)
                have d3p : (a : Int) < (s : Int) := by omega
                have d4 : decide ((s : Int) < (mid : Int)) = true := decide_eq_true (by omega)
                have d4p : (s : Int) < (mid : Int) := by omega
                have d5 : decide ((mid : Int) < (en : Int)) = false := decide_eq_false (by omega)
                have d5p : ¬ (mid : Int) < (en : Int) := by omega
                have d6 : decide ((en : Int) < (b : Int)) = false := decide_eq_false (by omega)
                have d6p : ¬ (en : Int) < (b : Int) := by omega
                have H1 : Hid (Wk2 w0 S g n cap wr (A ++ U1 ++ V1 ++ (U2 ++ V2 ++ B))) := Lib.hid (by rw [← sym_flat A U1 U2 V1 V2 B (.inl (List.eq_nil_of_length_eq_zero u2))]; exact HW.out)
                go_wp2_with (first
                  | (go_at_call 67; ((with_reducible refine (c2 _ H1.out u1 v1).mono ?_); rintro e w3 ⟨rfl, hM⟩; have H2 := Lib.hid hM; unfold MrgIs at H2; clear hM; clear c2)))
                first | done | (go_end0; obtain ⟨X1, n1, l1, s1, hW2⟩ := H2.out; exact ⟨rfl, HD.out X1 (U2 ++ V2) l1 s1 (le_stb U2 V2 HQ.out.2.1 HQ.out.2.2.2 (.inl (List.eq_nil_of_length_eq_zero u2))) (Stb.refl _) n1 List.length_append _ (by simpa only [List.append_assoc] using hW2)⟩)
              · have d1 : decide ((s : Int) < (m : Int)) = false := decide_eq_false (by omega)
                have d1p : ¬ (s : Int) < (m : Int) := by omega
                have d2 : decide ((m : Int) < (en : Int)) = true := decide_eq_true (by omega)
                have d2p : (m : Int) < (en : Int) := by omega
                have d3 : decide ((a : Int) < (s : Int)) = true := decide_eq_true (by omega)
                have d3p : (a : Int) < (s : Int) := by omega
                have d4 : decide ((s : Int) < (mid : Int)) = true := decide_eq_true (by omega)
                have d4p : (s : Int) < (mid : Int) := by omega
                have d5 : decide ((mid : Int) < (en : Int)) = false := decide_eq_false (by omega)
                have d5p : ¬ (mid : Int) < (en : Int) := by omega
                have d6 : decide ((en : Int) < (b : Int)) = true := decide_eq_true (by omega)
                have d6p : (en : Int) < (b : Int) := by omega
                have H1 : Hid (Wk2 w0 S g n cap wr (A ++ U1 ++ V1 ++ (U2 ++ V2 ++ B))) := Lib.hid (by rw [← sym_flat A U1 U2 V1 V2 B (.inl (List.eq_nil_of_length_eq_zero u2))]; exact HW.out)
                go_wp2_with (first
                  | (go_at_call 67; ((with_reducible refine (c2 _ H1.out u1 v1).mono ?_); rintro e w3 ⟨rfl, hM⟩; have H2 := Lib.hid hM; unfold MrgIs at H2; clear hM; clear c2)))
                first | done | (go_end0; obtain ⟨X1, n1, l1, s1, hW2⟩ := H2.out; exact ⟨rfl, HD.out X1 (U2 ++ V2) l1 s1 (le_stb U2 V2 HQ.out.2.1 HQ.out.2.2.2 (.inl (List.eq_nil_of_length_eq_zero u2))) (Stb.refl _) n1 List.length_append _ (by simpa only [List.append_assoc] using hW2)⟩)
          · rcases Nat.eq_zero_or_pos V1.length with v1 | v1
            · rcases Nat.eq_zero_or_pos V2.length with v2 | v2
              · exfalso; omega
              · have d1 : decide ((s : Int) < (m : Int)) = true := decide_eq_true (by omega)
                have d1p : (s : Int) < (m : Int) := by omega
                have d2 : decide ((m : Int) < (en : Int)) = false := decide_eq_false (by omega)
                have d2p : ¬ (m : Int) < (en : Int) := by omega
                have d3 : decide ((a : Int) < (s : Int)) = true := decide_eq_true (by omega)
                have d3p : (a : Int) < (s : Int) := by omega
                have d4 : decide ((s : Int) < (mid : Int)) = false := decide_eq_false (by omega)
                have d4p : ¬ (s : Int) < (mid : Int) := by omega
                have d5 : decide ((mid : Int) < (en : Int)) = true := decide_eq_true (by omega)
                have d5p : (mid : Int) < (en : Int) := by omega
                have d6 : decide ((en : Int) < (b : Int)) = true := decide_eq_true (by omega)
                have d6p : (en : Int) < (b : Int) := by omega
                have H1 : Hid (Wk2 w0 S g n cap wr (A ++ U1 ++ V1 ++ (U2 ++ V2 ++ B))) := Lib.hid (by rw [← sym_flat A U1 U2 V1 V2 B (.inr (List.eq_nil_of_length_eq_zero v1))]; exact HW.out)
                have H2 : Hid (∃ X1, X1.length = U1.length + V1.length ∧ Le X1 ∧ Stb (U1 ++ V1) X1 ∧ Wk2 w0 S g n cap _ (A ++ X1 ++ (U2 ++ V2 ++ B))) := Lib.hid ⟨U1 ++ V1, List.length_append, le_stb U1 V1 HQ.out.1 HQ.out.2.2.1 (.inr (List.eq_nil_of_length_eq_zero v1)), Stb.refl _, by simpa only [List.append_assoc] using H1.out⟩
                go_wp2_with (first
                  | (go_at_call 67; (obtain ⟨X1, n1, l1, s1, hW2⟩ := H2.out; (with_reducible refine (c3 _ X1 n1 hW2 u2 v2).mono ?_); rintro e w4 ⟨rfl, X2, n2, l2, s2, hW3⟩; have H3 := Lib.hid (HD.out X1 X2 l1 s1 l2 s2 n1 n2 _ hW3))))
                first | done | (go_end0; exact ⟨rfl, H3.out⟩)
            · rcases Nat.eq_zero_or_pos V2.length with v2 | v2
              · have d1 : decide ((s : Int) < (m : Int)) = true := decide_eq_true (by omega)
                have d1p : (s : Int) < (m : Int) := by omega
                have d2 : decide ((m : Int) < (en : Int)) = true := decide_eq_true (by omega)
                have d2p : (m : Int) < (en : Int) := by omega
                have d3 : decide ((a : Int) < (s : Int)) = true := decide_eq_true (by omega)
                have d3p : (a : Int) < (s : Int) := by omega
                have d4 : decide ((s : Int) < (mid : Int)) = true := decide_eq_true (by omega)
                have d4p : (s : Int) < (mid : Int) := by omega
                have d5 : decide ((mid : Int) < (en : Int)) = true := decide_eq_true (by omega)
                have d5p : (mid : Int) < (en : Int) := by omega
                have d6 : decide ((en : Int) < (b : Int)) = false := decide_eq_false (by omega)
                have d6p : ¬ (en : Int) < (b : Int) := by omega
                go_wp2_with (first
                  | (go_at_call 71; ((with_reducible refine (c1 _ HW.out u2 v1).mono ?_); rintro e w2 ⟨rfl, hW1⟩; have H1 := Lib.hid hW1; clear hW1))
                  | (go_at_call 67; ((with_reducible refine (c2 _ H1.out u1 v1).mono ?_); rintro e w3 ⟨rfl, hM⟩; have H2 := Lib.hid hM; unfold MrgIs at H2; clear hM; clear c2)))
                first | done | (go_end0; obtain ⟨X1, n1, l1, s1, hW2⟩ := H2.out; exact ⟨rfl, HD.out X1 (U2 ++ V2) l1 s1 (le_stb U2 V2 HQ.out.2.1 HQ.out.2.2.2 (.inr (List.eq_nil_of_length_eq_zero v2))) (Stb.refl _) n1 List.length_append _ (by simpa only [List.append_assoc] using hW2)⟩)
              · have d1 : decide ((s : Int) < (m : Int)) = true := decide_eq_true (by omega)
                have d1p : (s : Int) < (m : Int) := by omega
                have d2 : decide ((m : Int) < (en : Int)) = true := decide_eq_true (by omega)
                have d2p : (m : Int) < (en : Int) := by omega
                have d3 : decide ((a : Int) < (s : Int)) = true := decide_eq_true (by omega)
                have d3p : (a : Int) < (s : Int) := by omega
                have d4 : decide ((s : Int) < (mid : Int)) = true := decide_eq_true (by omega)
                have d4p : (s : Int) < (mid : Int) := by omega
                have d5 : decide ((mid : Int) < (en : Int)) = true := decide_eq_true (by omega)
                have d5p : (mid : Int) < (en : Int) := by omega
                have d6 : decide ((en : Int) < (b : Int)) = true := decide_eq_true (by omega)
                have d6p : (en : Int) < (b : Int) := by omega
                go_wp2_with (first
                  | (go_at_call 71; ((with_reducible refine (c1 _ HW.out u2 v1).mono ?_); rintro e w2 ⟨rfl, hW1⟩; have H1 := Lib.hid hW1; clear hW1))
                  | (go_at_call 67; ((with_reducible refine (c2 _ H1.out u1 v1).mono ?_); rintro e w3 ⟨rfl, hM⟩; have H2 := Lib.hid hM; unfold MrgIs at H2; clear hM; clear c2))
                  | (go_at_call 67; (obtain ⟨X1, n1, l1, s1, hW2⟩ := H2.out; (with_reducible refine (c3 _ X1 n1 hW2 u2 v2).mono ?_); rintro e w4 ⟨rfl, X2, n2, l2, s2, hW3⟩; have H3 := Lib.hid (HD.out X1 X2 l1 s1 l2 s2 n1 n2 _ hW3))))
                first | done | (go_end0; exact ⟨rfl, H3.out⟩)
  · obtain ⟨s0, hs0⟩ : ∃ s0 : Nat, a = s0 := ⟨_, rfl⟩
    obtain ⟨r0, hr0⟩ : ∃ r0 : Nat, m = r0 := ⟨_, rfl⟩
    have hg : ¬ (mid : Int) < (m : Int) := by omega
    have hgd : decide ((m : Int) > (mid : Int)) = false := decide_eq_false (by omega)
    have HZ : Hid (m ≤ mid) := Lib.hid (by omega)
    have hsb : a ≤ s0 ∧ s0 ≤ mid ∧ r0 ≤ m ∧ r0 ≤ mid := by omega
    subst hs0
    subst hr0
    obtain ⟨hsb1, hsb2, hsb3, hsb4⟩ := hsb
    go_enter Try.func67, Try.ntmps67
    go_wp2_with (fail)
    go_loopw [20, 21] (fun x y wr => ∃ (s r : Nat), x = .int .i64 s ∧ y = .int .i64 r ∧ a ≤ s ∧ s ≤ r ∧ r ≤ m ∧ BdS (A ++ U ++ V ++ B) p a m s r ∧ Wk2 w0 S g n cap wr (A ++ U ++ V ++ B)) (fun x y _ => (intOf y).toNat - (intOf x).toNat)
    case atStart => exact ⟨a, m, rfl, rfl, Nat.le_refl _, by omega, Nat.le_refl _, BdS.start _ _ _ _, HS.out⟩
    case round =>
      clear HS
      obtain ⟨s, r, rfl, rfl, hs1, hsr, hr1, hBd, hW⟩ := hrel
      have HBd := Lib.hid hBd
      have HW := Lib.hid hW
      clear hBd hW
      by_cases hij : s < r
      · generalize A ++ U ++ V ++ B = cur at *
        obtain ⟨c, hh⟩ : ∃ c : Nat, (s + r) / 2 = c := ⟨_, rfl⟩
        have hhI : ((s : Int) + (r : Int)) / 2 = (c : Int) := by omega
        have h1 : s ≤ c := by omega
        have h2 : c < r := by omega
        have hij' : (s : Int) < (r : Int) := by omega
        have hh0 : (0 : Int) ≤ (c : Int) := by omega
        have hhl : (c : Int) < (n : Int) := by omega
        obtain ⟨y, hy⟩ : ∃ y : Nat, p - c = y := ⟨_, rfl⟩
        have hyI : (p : Int) - (c : Int) = (y : Int) := by omega
        have hyI2 : (mid : Int) + (m : Int) - 1 - (c : Int) = (y : Int) := by omega
        have ry : IntKind.i64.wrap ((p : Int) - (c : Int)) = (y : Int) := by rw [IntKind.wrap_i64]; omega
        have ry2 : IntKind.i64.wrap (y : Int) = (y : Int) := by rw [IntKind.wrap_i64]; omega
        have hy0 : (0 : Int) ≤ (y : Int) := by omega
        have hyl : (y : Int) < (n : Int) := by omega
        obtain ⟨q, hq⟩ : ∃ q, cur[c]? = some q := ⟨_, List.getElem?_eq_getElem (by rw [HW.out.len]; omega)⟩
        obtain ⟨z, hz⟩ : ∃ z, cur[y]? = some z := ⟨_, List.getElem?_eq_getElem (by rw [HW.out.len]; omega)⟩
        obtain ⟨g0, g1⟩ := HW.out.cellG c q hq
        obtain ⟨g2, g3⟩ := HW.out.cellG y z hz
        rw [← hy] at hz
        obtain ⟨qk, qv⟩ := q
        obtain ⟨zk, zv⟩ := z
        dsimp only at g0 g1 g2 g3
        have cc := fun W => new1_any zk zv qk qv W
        have hcp : c ≤ p := by omega
        by_cases hpq : zk < qk
        · obtain ⟨t, ht, htn⟩ : ∃ t, cmpI zk qk = t ∧ t < 0 := ⟨_, cmpI_neg hpq, by decide⟩
          rw [ht] at cc
          have hzd : decide (t < 0) = true := decide_eq_true htn
          have hzb : (!decide (t < 0)) = false := by rw [hzd]; rfl
          have HN := Lib.hid (HBd.out.down hq hz hpq)
          clear hq hz hpq ht HBd hy
          go_wp2_with (fail)
          go_quiet_grown (first | (go_at_call 39; exact Calls.grown_of (cc _)))
          have HW2 := Lib.hid (HW.out.grown nq osq)
          clear g0 g1 g2 g3 HW
          generalize grow (wr.drewN nq) osq = w2 at HW2 ⊢
          clear nq osq
          go_wp2_with (fail)
          go_roundw
          case rel => exact ⟨s, c, rfl, by go_num, hs1, by omega, by omega, HN.out, HW2.out⟩
          case measure => simp [intOf]; omega
        · obtain ⟨t, ht, htn⟩ := cmpI_nneg hpq
          rw [ht] at cc
          have hzd : decide (t < 0) = false := decide_eq_false htn
          have hzb : (!decide (t < 0)) = true := by rw [hzd]; rfl
          have HN := Lib.hid (HBd.out.up hcp hq hz hpq)
          clear hq hz hpq ht HBd hy
          go_wp2_with (fail)
          go_quiet_grown (first | (go_at_call 39; exact Calls.grown_of (cc _)))
          have HW2 := Lib.hid (HW.out.grown nq osq)
          clear g0 g1 g2 g3 HW
          generalize grow (wr.drewN nq) osq = w2 at HW2 ⊢
          clear nq osq
          go_wp2_with (fail)
          go_roundw
          case rel => exact ⟨c + 1, r, by go_num, rfl, by omega, by omega, by omega, HN.out, HW2.out⟩
          case measure => simp [intOf]; omega
      · obtain rfl : s = r := by omega
        have hij' : ¬ (s : Int) < (s : Int) := by omega
        obtain ⟨en, hen⟩ : ∃ en : Nat, mid + m - s = en := ⟨_, rfl⟩
        have henI : (mid : Int) + (m : Int) - (s : Int) = (en : Int) := by omega
        obtain ⟨U1, U2, V1, V2, hcut⟩ := HC.out _ _ s en HBd.out (.inr ⟨HZ.out, rfl, rfl⟩) hs1 hr1 hen
        obtain ⟨rfl, rfl, e1, e2, L1, L2⟩ := hcut
        obtain ⟨GU, GV⟩ := HG.out _ _ _ _ rfl rfl
        obtain ⟨z1, z2, z3⟩ := HUL.out
        rw [List.length_append] at z1 z2 z3
        rw [List.length_append] at z3
        have GU1 := Le.app.1 GU
        have GV1 := Le.app.1 GV
        have x1 : s + U2.length = m := by omega
        have x2 : en + V2.length = b := by omega
        have x3 : s + V1.length = mid := by omega
        have x4 : mid + U2.length = en := by omega
        have c1 : ∀ W, Wk2 w0 S g n cap W (A ++ (U1 ++ U2) ++ (V1 ++ V2) ++ B) → 0 < U2.length → 0 < V1.length → Calls Try.prog 71 #[.slice (some ⟨g, 0, none⟩) n cap, .int .i64 s, .int .i64 m, .int .i64 en, .func (.func 39) #[] #[]] W fun e w' => e = .returned (.tuple #[]) ∧ Wk2 w0 S g n cap w' (A ++ U1 ++ V1 ++ (U2 ++ V2 ++ B)) :=
          fun W hw q1 q2 => (rot_any g cap n s m en (A ++ U1) U2 V1 (V2 ++ B) S _ W w0 (by simpa only [List.append_assoc] using hw) hl (by rw [List.length_append, HA.out]; omega) x1 e2 q1 q2).mono (fun e w' hh => ⟨hh.1, by simpa only [List.append_assoc] using hh.2⟩)
        have c2 : ∀ W, Wk2 w0 S g n cap W (A ++ U1 ++ V1 ++ (U2 ++ V2 ++ B)) → 0 < U1.length → 0 < V1.length → Calls Try.prog 67 #[.slice (some ⟨g, 0, none⟩) n cap, .int .i64 a, .int .i64 s, .int .i64 mid, .func (.func 39) #[] #[]] W fun e w' => e = .returned (.tuple #[]) ∧ MrgIs w0 S g n cap A U1 V1 (U2 ++ V2 ++ B) w' :=
          fun W hw q1 q2 => HK.out g cap n a s mid A U1 V1 (U2 ++ V2 ++ B) S W w0 hw hl HA.out e1 x3 GU1.1 GV1.1 q1 q2 (by omega)
        have c3 : ∀ W X1, X1.length = U1.length + V1.length → Wk2 w0 S g n cap W (A ++ X1 ++ (U2 ++ V2 ++ B)) → 0 < U2.length → 0 < V2.length → Calls Try.prog 67 #[.slice (some ⟨g, 0, none⟩) n cap, .int .i64 mid, .int .i64 en, .int .i64 b, .func (.func 39) #[] #[]] W fun e w' => e = .returned (.tuple #[]) ∧ MrgIs w0 S g n cap (A ++ X1) U2 V2 B w' :=
          fun W X1 hx hw q1 q2 => HK.out g cap n mid en b (A ++ X1) U2 V2 B S W w0 (by simpa only [List.append_assoc] using hw) hl (by rw [List.length_append, HA.out]; omega) x4 x2 GU1.2.1 GV1.2.1 q1 q2 (by omega)
        have HD : Hid (∀ X1 X2, Le X1 → Stb (U1 ++ V1) X1 → Le X2 → Stb (U2 ++ V2) X2 → X1.length = U1.length + V1.length → X2.length = U2.length + V2.length → ∀ W, Wk2 w0 S g n cap W (A ++ X1 ++ X2 ++ B) → MrgIs w0 S g n cap A (U1 ++ U2) (V1 ++ V2) B W) :=
          Lib.hid (fun X1 X2 l1 s1 l2 s2 n1 n2 W hw => ⟨X1 ++ X2, by simp only [List.length_append]; omega, (mrg L1 L2 GU GV l1 s1 l2 s2).1, (mrg L1 L2 GU GV l1 s1 l2 s2).2, by simpa only [List.append_assoc] using hw⟩)
        have HQ : Hid (Le U1 ∧ Le U2 ∧ Le V1 ∧ Le V2) := Lib.hid ⟨GU1.1, GU1.2.1, GV1.1, GV1.2.1⟩
        have HZ1 := Lib.hid z1
        have HZ2 := Lib.hid z2
        clear GU GV GU1 GV1 L1 L2 HC HG HK HBd HUL HZ z1 z2 z3
        have HN := Lib.hid (And.intro e1 (And.intro e2 (And.intro x1 (And.intro x2 (And.intro x3 x4)))))
        rcases Nat.eq_zero_or_pos U1.length with u1 | u1
        · rcases Nat.eq_zero_or_pos U2.length with u2 | u2
          · rcases Nat.eq_zero_or_pos V1.length with v1 | v1
            · rcases Nat.eq_zero_or_pos V2.length with v2 | v2
              · exfalso; omega
              · exfalso; omega
            · rcases Nat.eq_zero_or_pos V2.length with v2 | v2
              · exfalso; omega
              · exfalso; omega
          · rcases Nat.eq_zero_or_pos V1.length with v1 | v1
            · rcases Nat.eq_zero_or_pos V2.length with v2 | v2
              · exfalso; omega
              · have d1 : decide ((s : Int) < (m : Int)) = true := decide_eq_true (by omega)
                have d1p : (s : Int) < (m : Int) := by omega
                have d2 : decide ((m : Int) < (en : Int)) = false := decide_eq_false (by omega)
                have d2p : ¬ (m : Int) < (en : Int) := by omega
                have d3 : decide ((a : Int) < (s : Int)) = false := decide_eq_false (by omega)
                have d3p : ¬ (a : Int) < (s : Int) := by omega
                have d4 : decide ((s : Int) < (mid : Int)) = false := decide_eq_false (by omega)
                have d4p : ¬ (s : Int) < (mid : Int) := by omega
                have d5 : decide ((mid : Int) < (en : Int)) = true := decide_eq_true (by omega)
                have d5p : (mid : Int) < (en : Int) := by omega
                have d6 : decide ((en : Int) < (b : Int)) = true := decide_eq_true (by omega)
                have d6p : (en : Int) < (b : Int) := by omega
                have H1 : Hid (Wk2 w0 S g n cap wr (A ++ U1 ++ V1 ++ (U2 ++ V2 ++ B))) := Lib.hid (by rw [← sym_flat A U1 U2 V1 V2 B (.inr (List.eq_nil_of_length_eq_zero v1))]; exact HW.out)
                have H2 : Hid (∃ X1, X1.length = U1.length + V1.length ∧ Le X1 ∧ Stb (U1 ++ V1) X1 ∧ Wk2 w0 S g n cap _ (A ++ X1 ++ (U2 ++ V2 ++ B))) := Lib.hid ⟨U1 ++ V1, List.length_append, le_stb U1 V1 HQ.out.1 HQ.out.2.2.1 (.inl (List.eq_nil_of_length_eq_zero u1)), Stb.refl _, by simpa only [List.append_assoc] using H1.out⟩
                go_wp2_with (first
                  | (go_at_call 67; (obtain ⟨X1, n1, l1, s1, hW2⟩ := H2.out; (with_reducible refine (c3 _ X1 n1 hW2 u2 v2).mono ?_); rintro e w4 ⟨rfl, X2, n2, l2, s2, hW3⟩; have H3 := Lib.hid (HD.out X1 X2 l1 s1 l2 s2 n1 n2 _ hW3))))
                first | done | (go_end0; exact ⟨rfl, H3.out⟩)
            · rcases Nat.eq_zero_or_pos V2.length with v2 | v2
              · have d1 : decide ((s : Int) < (m : Int)) = true := decide_eq_true (by omega)
                have d1p : (s : Int) < (m : Int) := by omega
                have d2 : decide ((m : Int) < (en : Int)) = true := decide_eq_true (by omega)
                have d2p : (m : Int) < (en : Int) := by omega
                have d3 : decide ((a : Int) < (s : Int)) = false := decide_eq_false (by omega)
                have d3p : ¬ (a : Int) < (s : Int) := by omega
                have d4 : decide ((s : Int) < (mid : Int)) = true := decide_eq_true (by omega)
                have d4p : (s : Int) < (mid : Int) := by omega
                have d5 : decide ((mid : Int) < (en : Int)) = true := decide_eq_true (by omega)
                have d5p : (mid : Int) < (en : Int) := by omega
                have d6 : decide ((en : Int) < (b : Int)) = false := decide_eq_false (by omega)
                have d6p : ¬ (en : Int) < (b : Int) := by omega
                go_wp2_with (first
                  | (go_at_call 71; ((with_reducible refine (c1 _ HW.out u2 v1).mono ?_); rintro e w2 ⟨rfl, hW1⟩; have H1 := Lib.hid hW1; clear hW1; have H2 : Hid (∃ X1, X1.length = U1.length + V1.length ∧ Le X1 ∧ Stb (U1 ++ V1) X1 ∧ Wk2 w0 S g n cap _ (A ++ X1 ++ (U2 ++ V2 ++ B))) := Lib.hid ⟨U1 ++ V1, List.length_append, le_stb U1 V1 HQ.out.1 HQ.out.2.2.1 (.inl (List.eq_nil_of_length_eq_zero u1)), Stb.refl _, by simpa only [List.append_assoc] using H1.out⟩)))
                first | done | (go_end0; obtain ⟨X1, n1, l1, s1, hW2⟩ := H2.out; exact ⟨rfl, HD.out X1 (U2 ++ V2) l1 s1 (le_stb U2 V2 HQ.out.2.1 HQ.out.2.2.2 (.inr (List.eq_nil_of_length_eq_zero v2))) (Stb.refl _) n1 List.length_append _ (by simpa only [List.append_assoc] using hW2)⟩)
              · have d1 : decide ((s : Int) < (m : Int)) = true := decide_eq_true (by omega)
                have d1p : (s : Int) < (m : Int) := by omega
                have d2 : decide ((m : Int) < (en : Int)) = true := decide_eq_true (by omega)
                have d2p : (m : Int) < (en : Int) := by omega
                have d3 : decide ((a : Int) < (s : Int)) = false := decide_eq_false (by omega)
                have d3p : ¬ (a : Int) < (s : Int) := by omega
                have d4 : decide ((s : Int) < (mid : Int)) = true := decide_eq_true (by omega)
                have d4p : (s : Int) < (mid : Int) := by omega
                have d5 : decide ((mid : Int) < (en : Int)) = true := decide_eq_true (by omega)
                have d5p : (mid : Int) < (en : Int) := by omega
                have d6 : decide ((en : Int) < (b : Int)) = true := decide_eq_true (by omega)
                have d6p : (en : Int) < (b : Int) := by omega
                go_wp2_with (first
                  | (go_at_call 71; ((with_reducible refine (c1 _ HW.out u2 v1).mono ?_); rintro e w2 ⟨rfl, hW1⟩; have H1 := Lib.hid hW1; clear hW1; have H2 : Hid (∃ X1, X1.length = U1.length + V1.length ∧ Le X1 ∧ Stb (U1 ++ V1) X1 ∧ Wk2 w0 S g n cap _ (A ++ X1 ++ (U2 ++ V2 ++ B))) := Lib.hid ⟨U1 ++ V1, List.length_append, le_stb U1 V1 HQ.out.1 HQ.out.2.2.1 (.inl (List.eq_nil_of_length_eq_zero u1)), Stb.refl _, by simpa only [List.append_assoc] using H1.out⟩))
                  | (go_at_call 67; (obtain ⟨X1, n1, l1, s1, hW2⟩ := H2.out; (with_reducible refine (c3 _ X1 n1 hW2 u2 v2).mono ?_); rintro e w4 ⟨rfl, X2, n2, l2, s2, hW3⟩; have H3 := Lib.hid (HD.out X1 X2 l1 s1 l2 s2 n1 n2 _ hW3))))
                first | done | (go_end0; exact ⟨rfl, H3.out⟩)
        · rcases Nat.eq_zero_or_pos U2.length with u2 | u2
          · rcases Nat.eq_zero_or_pos V1.length with v1 | v1
            · rcases Nat.eq_zero_or_pos V2.length with v2 | v2
              · exfalso; omega
              · have d1 : decide ((s : Int) < (m : Int)) = false := decide_eq_false (by omega)
                have d1p : ¬ (s : Int) < (m : Int) := by omega
                have d2 : decide ((m : Int) < (en : Int)) = false := decide_eq_false (by omega)
                have d2p : ¬ (m : Int) < (en : Int) := by omega
                have d3 : decide ((a : Int) < (s : Int)) = true := decide_eq_true (by omega)
                have d3p : (a : Int) < (s : Int) := by omega
                have d4 : decide ((s : Int) < (mid : Int)) = false := decide_eq_false (by omega)
                have d4p : ¬ (s : Int) < (mid : Int) := by omega
                have d5 : decide ((mid : Int) < (en : Int)) = false := decide_eq_false (by omega)
                have d5p : ¬ (mid : Int) < (en : Int) := by omega
                have d6 : decide ((en : Int) < (b : Int)) = true := decide_eq_true (by omega)
                have d6p : (en : Int) < (b : Int) := by omega
                have H1 : Hid (Wk2 w0 S g n cap wr (A ++ U1 ++ V1 ++ (U2 ++ V2 ++ B))) := Lib.hid (by rw [← sym_flat A U1 U2 V1 V2 B (.inl (List.eq_nil_of_length_eq_zero u2))]; exact HW.out)
                have H2 : Hid (∃ X1, X1.length = U1.length + V1.length ∧ Le X1 ∧ Stb (U1 ++ V1) X1 ∧ Wk2 w0 S g n cap _ (A ++ X1 ++ (U2 ++ V2 ++ B))) := Lib.hid ⟨U1 ++ V1, List.length_append, le_stb U1 V1 HQ.out.1 HQ.out.2.2.1 (.inr (List.eq_nil_of_length_eq_zero v1)), Stb.refl _, by simpa only [List.append_assoc] using H1.out⟩
                go_wp2_with (first
                  | fail)
                first | done | (go_end0; obtain ⟨X1, n1, l1, s1, hW2⟩ := H2.out; exact ⟨rfl, HD.out X1 (U2 ++ V2) l1 s1 (le_stb U2 V2 HQ.out.2.1 HQ.out.2.2.2 (.inl (List.eq_nil_of_length_eq_zero u2))) (Stb.refl _) n1 List.length_append _ (by simpa only [List.append_assoc] using hW2)⟩)
            · rcases Nat.eq_zero_or_pos V2.length with v2 | v2
              · have d1 : decide ((s : Int) < (m : Int)) = false := decide_eq_false (by omega)
                have d1p : ¬ (s : Int) < (m : Int) := by omega
                have d2 : decide ((m : Int) < (en : Int)) = true := decide_eq_true (by omega)
                have d2p : (m : Int) < (en : Int) := by omega
                have d3 : decide ((a : Int) < (s : Int)) = true := decide_eq_true (by omega)
                have d3p : (a : Int) < (s : Int) := by omega
                have d4 : decide ((s : Int) < (mid : Int)) = true := decide_eq_true (by omega)
                have d4p : (s : Int) < (mid : Int) := by omega
                have d5 : decide ((mid : Int) < (en : Int)) = false := decide_eq_false (by omega)
                have d5p : ¬ (mid : Int) < (en : Int) := by omega
                have d6 : decide ((en : Int) < (b : Int)) = false := decide_eq_false (by omega)
                have d6p : ¬ (en : Int) < (b : Int) := by omega
                have H1 : Hid (Wk2 w0 S g n cap wr (A ++ U1 ++ V1 ++ (U2 ++ V2 ++ B))) := Lib.hid (by rw [← sym_flat A U1 U2 V1 V2 B (.inl (List.eq_nil_of_length_eq_zero u2))]; exact HW.out)
                go_wp2_with (first
                  | (go_at_call 67; ((with_reducible refine (c2 _ H1.out u1 v1).mono ?_); rintro e w3 ⟨rfl, hM⟩; have H2 := Lib.hid hM; unfold MrgIs at H2; clear hM; clear c2)))
                first | done | (go_end0; obtain ⟨X1, n1, l1, s1, hW2⟩ := H2.out; exact ⟨rfl, HD.out X1 (U2 ++ V2) l1 s1 (le_stb U2 V2 HQ.out.2.1 HQ.out.2.2.2 (.inl (List.eq_nil_of_length_eq_zero u2))) (Stb.refl _) n1 List.length_append _ (by simpa only [List.append_assoc] using hW2)⟩)
              · have d1 : decide ((s : Int) < (m : Int)) = false := decide_eq_false (by omega)
                have d1p : ¬ (s : Int) < (m : Int) := by omega
                have d2 : decide ((m : Int) < (en : Int)) = true := decide_eq_true (by omega)
                have d2p : (m : Int) < (en : Int) := by omega
                have d3 : decide ((a : Int) < (s : Int)) = true := decide_eq_true (by omega)
                have d3p : (a : Int) < (s : Int) := by omega
                have d4 : decide ((s : Int) < (mid : Int)) = true := decide_eq_true (by omega)
                have d4p : (s : Int) < (mid : Int) := by omega
                have d5 : decide ((mid : Int) < (en : Int)) = false := decide_eq_false (by omega)
                have d5p : ¬ (mid : Int) < (en : Int) := by omega
                have d6 : decide ((en : Int) < (b : Int)) = true := decide_eq_true (by omega)
                have d6p : (en : Int) < (b : Int) := by omega
                have H1 : Hid (Wk2 w0 S g n cap wr (A ++ U1 ++ V1 ++ (U2 ++ V2 ++ B))) := Lib.hid (by rw [← sym_flat A U1 U2 V1 V2 B (.inl (List.eq_nil_of_length_eq_zero u2))]; exact HW.out)
                go_wp2_with (first
                  | (go_at_call 67; ((with_reducible refine (c2 _ H1.out u1 v1).mono ?_); rintro e w3 ⟨rfl, hM⟩; have H2 := Lib.hid hM; unfold MrgIs at H2; clear hM; clear c2)))
                first | done | (go_end0; obtain ⟨X1, n1, l1, s1, hW2⟩ := H2.out; exact ⟨rfl, HD.out X1 (U2 ++ V2) l1 s1 (le_stb U2 V2 HQ.out.2.1 HQ.out.2.2.2 (.inl (List.eq_nil_of_length_eq_zero u2))) (Stb.refl _) n1 List.length_append _ (by simpa only [List.append_assoc] using hW2)⟩)
          · rcases Nat.eq_zero_or_pos V1.length with v1 | v1
            · rcases Nat.eq_zero_or_pos V2.length with v2 | v2
              · exfalso; omega
              · have d1 : decide ((s : Int) < (m : Int)) = true := decide_eq_true (by omega)
                have d1p : (s : Int) < (m : Int) := by omega
                have d2 : decide ((m : Int) < (en : Int)) = false := decide_eq_false (by omega)
                have d2p : ¬ (m : Int) < (en : Int) := by omega
                have d3 : decide ((a : Int) < (s : Int)) = true := decide_eq_true (by omega)
                have d3p : (a : Int) < (s : Int) := by omega
                have d4 : decide ((s : Int) < (mid : Int)) = false := decide_eq_false (by omega)
                have d4p : ¬ (s : Int) < (mid : Int) := by omega
                have d5 : decide ((mid : Int) < (en : Int)) = true := decide_eq_true (by omega)
                have d5p : (mid : Int) < (en : Int) := by omega
                have d6 : decide ((en : Int) < (b : Int)) = true := decide_eq_true (by omega)
                have d6p : (en : Int) < (b : Int) := by omega
                have H1 : Hid (Wk2 w0 S g n cap wr (A ++ U1 ++ V1 ++ (U2 ++ V2 ++ B))) := Lib.hid (by rw [← sym_flat A U1 U2 V1 V2 B (.inr (List.eq_nil_of_length_eq_zero v1))]; exact HW.out)
                have H2 : Hid (∃ X1, X1.length = U1.length + V1.length ∧ Le X1 ∧ Stb (U1 ++ V1) X1 ∧ Wk2 w0 S g n cap _ (A ++ X1 ++ (U2 ++ V2 ++ B))) := Lib.hid ⟨U1 ++ V1, List.length_append, le_stb U1 V1 HQ.out.1 HQ.out.2.2.1 (.inr (List.eq_nil_of_length_eq_zero v1)), Stb.refl _, by simpa only [List.append_assoc] using H1.out⟩
                go_wp2_with (first
                  | (go_at_call 67; (obtain ⟨X1, n1, l1, s1, hW2⟩ := H2.out; (with_reducible refine (c3 _ X1 n1 hW2 u2 v2).mono ?_); rintro e w4 ⟨rfl, X2, n2, l2, s2, hW3⟩; have H3 := Lib.hid (HD.out X1 X2 l1 s1 l2 s2 n1 n2 _ hW3))))
                first | done | (go_end0; exact ⟨rfl, H3.out⟩)
            · rcases Nat.eq_zero_or_pos V2.length with v2 | v2
              · have d1 : decide ((s : Int) < (m : Int)) = true := decide_eq_true (by omega)
                have d1p : (s : Int) < (m : Int) := by omega
                have d2 : decide ((m : Int) < (en : Int)) = true := decide_eq_true (by omega)
                have d2p : (m : Int) < (en : Int) := by omega
                have d3 : decide ((a : Int) < (s : Int)) = true := decide_eq_true (by omega)
                have d3p : (a : Int) < (s : Int) := by omega
                have d4 : decide ((s : Int) < (mid : Int)) = true := decide_eq_true (by omega)
                have d4p : (s : Int) < (mid : Int) := by omega
                have d5 : decide ((mid : Int) < (en : Int)) = true := decide_eq_true (by omega)
                have d5p : (mid : Int) < (en : Int) := by omega
                have d6 : decide ((en : Int) < (b : Int)) = false := decide_eq_false (by omega)
                have d6p : ¬ (en : Int) < (b : Int) := by omega
                go_wp2_with (first
                  | (go_at_call 71; ((with_reducible refine (c1 _ HW.out u2 v1).mono ?_); rintro e w2 ⟨rfl, hW1⟩; have H1 := Lib.hid hW1; clear hW1))
                  | (go_at_call 67; ((with_reducible refine (c2 _ H1.out u1 v1).mono ?_); rintro e w3 ⟨rfl, hM⟩; have H2 := Lib.hid hM; unfold MrgIs at H2; clear hM; clear c2)))
                first | done | (go_end0; obtain ⟨X1, n1, l1, s1, hW2⟩ := H2.out; exact ⟨rfl, HD.out X1 (U2 ++ V2) l1 s1 (le_stb U2 V2 HQ.out.2.1 HQ.out.2.2.2 (.inr (List.eq_nil_of_length_eq_zero v2))) (Stb.refl _) n1 List.length_append _ (by simpa only [List.append_assoc] using hW2)⟩)
              · have d1 : decide ((s : Int) < (m : Int)) = true := decide_eq_true (by omega)
                have d1p : (s : Int) < (m : Int) := by omega
                have d2 : decide ((m : Int) < (en : Int)) = true := decide_eq_true (by omega)
                have d2p : (m : Int) < (en : Int) := by omega
                have d3 : decide ((a : Int) < (s : Int)) = true := decide_eq_true (by omega)
                have d3p : (a : Int) < (s : Int) := by omega
                have d4 : decide ((s : Int) < (mid : Int)) = true := decide_eq_true (by omega)
                have d4p : (s : Int) < (mid : Int) := by omega
                have d5 : decide ((mid : Int) < (en : Int)) = true := decide_eq_true (by omega)
                have d5p : (mid : Int) < (en : Int) := by omega
                have d6 : decide ((en : Int) < (b : Int)) = true := decide_eq_true (by omega)
                have d6p : (en : Int) < (b : Int) := by omega
                go_wp2_with (first
                  | (go_at_call 71; ((with_reducible refine (c1 _ HW.out u2 v1).mono ?_); rintro e w2 ⟨rfl, hW1⟩; have H1 := Lib.hid hW1; clear hW1))
                  | (go_at_call 67; ((with_reducible refine (c2 _ H1.out u1 v1).mono ?_); rintro e w3 ⟨rfl, hM⟩; have H2 := Lib.hid hM; unfold MrgIs at H2; clear hM; clear c2))
                  | (go_at_call 67; (obtain ⟨X1, n1, l1, s1, hW2⟩ := H2.out; (with_reducible refine (c3 _ X1 n1 hW2 u2 v2).mono ?_); rintro e w4 ⟨rfl, X2, n2, l2, s2, hW3⟩; have H3 := Lib.hid (HD.out X1 X2 l1 s1 l2 s2 n1 n2 _ hW3))))
                first | done | (go_end0; exact ⟨rfl, H3.out⟩)

/-- slices.symMergeCmpFunc: both parts sorted become one. -/
theorem sym_all : ∀ k, SymOk k
  | 0 => fun g cap n a m b A U V B S w w0 h hl ha hm hb hU hV hU0 hV0 hk => by exfalso; omega
  | k + 1 => fun g cap n a m b A U V B S w w0 h hl ha hm hb hU hV hU0 hV0 hk => by
    by_cases hU1 : U.length = 1
    · match U, hU1 with
      | [u], _ => exact sym1_any g cap n a m b A V B u S w w0 h hl ha (by simpa using hm) hb hV
    · by_cases hV1 : V.length = 1
      · match V, hV1 with
        | [v], _ => exact sym2_any g cap n a m b A U B v S w w0 h hl ha hm (by simpa using hb) hU hU1
      · exact sym_step k (sym_all k) g cap n a m b A U V B S w w0 h hl ha hm hb hU hV hU0 hV0 hU1 hV1 hk
end Go.Proofs.Ytadfnbmogobopaa
