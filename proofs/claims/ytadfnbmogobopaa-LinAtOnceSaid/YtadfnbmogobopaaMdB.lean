/- The comparison by key, as model.New hands it to the sort; slices.insertionSortCmpFunc. No condition: lemmas. -/
import Derived.Test.YtadfnbmogobopaaMdA
namespace Go.Proofs.Ytadfnbmogobopaa
open Go.RowKit Go.Sort
set_option linter.all false

theorem below_grown (w : World) (n : Nat) (os : Array Obj) : Below w.heap.size w (grow (w.drewN n) os) :=
  ⟨rfl, rfl, rfl, by rw [size_grow]; exact Nat.le_add_right _ _, fun k hk => heap_grow_old (w.drewN n) os hk⟩

theorem new1_any (k v k' v' : Int) (w : World) : Calls Try.prog 39 #[.agg #[.int .i64 k, .int .i64 v], .agg #[.int .i64 k', .int .i64 v']] w fun e w' =>
    e = .returned (.int .i64 (cmpI k k')) ∧ ∃ q os', w' = grow (w.drewN q) os' := by
  have c := fun W => cmp_any k k' W
  go_enter Try.func39, Try.ntmps39
  go_wp2_with (go_at_call 40; ((with_reducible refine (c _).mono ?_); rintro e w' ⟨rfl, rfl⟩))
  go_ret
  exact ⟨rfl, 0, _, by rw [alloc_eq_grow, alloc_eq_grow, grow_grow]; rfl⟩

theorem Wk2.grown {w0 w : World} {S : Nat → Prop} {g n cap : Nat} {l : List Pr} (h : Wk2 w0 S g n cap w l) (m : Nat) (os : Array Obj) : Wk2 w0 S g n cap (grow (w.drewN m) os) l := h.below (below_grown w m os)
/-- The cells of a pair, in whatever world with blocks behind. -/
theorem Wk2.cellG {w0 w : World} {S : Nat → Prop} {g n cap : Nat} {l : List Pr} (h : Wk2 w0 S g n cap w l) (i : Nat) (q : Pr) (hq : l[i]? = some q) :
    (∀ m os, (grow (w.drewN m) os).cell? ⟨g, i * 2, none⟩ = some (.int .i64 q.1)) ∧ ∀ m os, (grow (w.drewN m) os).cell? ⟨g, i * 2 + 1, none⟩ = some (.int .i64 q.2) :=
  ⟨fun m os => ((h.grown m os).cell i q hq).1, fun m os => ((h.grown m os).cell i q hq).2.1⟩
theorem cmpI_neg {a b : Int} (h : a < b) : cmpI a b = -1 := by unfold cmpI; rw [if_pos h]
theorem cmpI_nneg {a b : Int} (h : ¬ a < b) : ∃ z, cmpI a b = z ∧ ¬ z < 0 := by
  refine ⟨_, rfl, ?_⟩
  unfold cmpI
  rw [if_neg h]
  split <;> omega

theorem app_at (A : List Pr) (x : Pr) (B : List Pr) (i : Nat) (h : i = A.length) : (A ++ x :: B)[i]? = some x := by subst h; simp
/-- What is between in the sort of a row: the pairs from a on, as many as before. -/
structure Ins (A U B : List Pr) (n : Nat) (cur : List Pr) : Prop where
  h : ∃ D R X, U = D ++ R ∧ D.length = n ∧ X.length = n ∧ Le X ∧ Stb D X ∧ cur = A ++ X ++ R ++ B
/-- The pair at j goes down among those that are sorted. -/
structure InsJ (A U B : List Pr) (n : Nat) (j : Nat) (cur : List Pr) : Prop where
  h : ∃ D y R X1 X2, U = D ++ y :: R ∧ D.length = n ∧ (X1 ++ X2).length = n ∧ Le (X1 ++ X2) ∧ Stb D (X1 ++ X2) ∧ (∀ x ∈ X2, y.1 < x.1) ∧ j = A.length + X1.length ∧ cur = A ++ X1 ++ y :: (X2 ++ R ++ B)
theorem Ins.start (A U B : List Pr) (h : 0 < U.length) : Ins A U B 1 (A ++ U ++ B) := by
  match U, h with
  | u :: U, _ => exact ⟨[u], U, [u], rfl, rfl, rfl, Le.one u, Stb.refl _, by simp⟩
theorem Ins.inner {A U B cur : List Pr} {n : Nat} (h : Ins A U B n cur) (hn : n < U.length) : InsJ A U B n (A.length + n) cur := by
  obtain ⟨D, R, X, rfl, hD, hX, hl, hs, rfl⟩ := h.h
  match R, hn with
  | [], hn => simp at hn; omega
  | y :: R, _ => exact ⟨D, y, R, X, [], rfl, hD, by simpa using hX, by simpa using hl, by simpa using hs, by simp, by omega, by simp⟩
theorem InsJ.stop {A U B cur : List Pr} {n j : Nat} (h : InsJ A U B n j cur) (hs : j ≤ A.length ∨ ∃ p q, cur[j]? = some p ∧ cur[j - 1]? = some q ∧ A.length < j ∧ ¬ p.1 < q.1) : Ins A U B (n + 1) cur := by
  obtain ⟨D, y, R, X1, X2, rfl, hD, hX, hl, hst, hy, rfl, rfl⟩ := h.h
  have h1 : ∀ x ∈ X1, x.1 ≤ y.1 := by
    rcases hs with hs | ⟨p, q, hp, hq, hj, hpq⟩
    · have : X1 = [] := List.eq_nil_of_length_eq_zero (by omega)
      subst this
      simp
    · rw [app_at (A ++ X1) y _ _ (by simp)] at hp
      cases hp
      intro x hx
      obtain ⟨i, hi⟩ := List.getElem?_of_mem hx
      have hi2 := (List.getElem?_eq_some_iff.1 hi).1
      have hq2 : X1[X1.length - 1]? = some q := by
        rw [List.append_assoc, List.getElem?_append_right (by omega), List.getElem?_append_left (by omega)] at hq
        rw [← hq]; congr 1; omega
      have := (Le.app.1 hl).1.at i (X1.length - 1) x q (by omega) hi hq2
      omega
  refine ⟨D ++ [y], R, X1 ++ y :: X2, by simp, by simp [hD], by simp at hX ⊢; omega, ins_le hl h1 hy, (hst.app (Stb.refl [y])).trans (ins_stb hy), by simp⟩
theorem InsJ.step {A U B cur : List Pr} {n j : Nat} {p q : Pr} (h : InsJ A U B n (j + 1) cur) (hj : A.length ≤ j) (hp : cur[j + 1]? = some p) (hq : cur[j]? = some q) (hpq : p.1 < q.1) : InsJ A U B n j (swp cur (j + 1) j) := by
  obtain ⟨D, y, R, X1, X2, rfl, hD, hX, hl, hst, hy, hjl, rfl⟩ := h.h
  have hpos : X1 ≠ [] := by rintro rfl; simp at hjl; omega
  obtain ⟨X0, z, rfl⟩ : ∃ X0 z, X1 = X0 ++ [z] := ⟨X1.dropLast, X1.getLast hpos, (List.dropLast_concat_getLast hpos).symm⟩
  rw [List.length_append, List.length_singleton] at hjl
  rw [app_at (A ++ (X0 ++ [z])) y _ _ (by simp; omega)] at hp
  cases hp
  have e : A ++ (X0 ++ [z]) ++ p :: (X2 ++ R ++ B) = (A ++ X0) ++ z :: p :: (X2 ++ R ++ B) := by simp
  rw [e] at hq ⊢
  rw [app_at (A ++ X0) z _ _ (by simp; omega)] at hq
  cases hq
  rw [swp_back (A ++ X0) q p (X2 ++ R ++ B) (j + 1) j (by simp; omega) (by simp; omega)]
  refine ⟨D, p, R, X0, q :: X2, rfl, hD, by simp at hX ⊢; omega, by simpa using hl, by simpa using hst, fun x hx => ?_, by omega, by simp⟩
  rcases List.mem_cons.1 hx with rfl | hx
  · exact hpq
  · exact hy x hx
theorem Ins.done {A U B cur : List Pr} (h : Ins A U B U.length cur) : ∃ X, cur = A ++ X ++ B ∧ X.length = U.length ∧ Le X ∧ Stb U X := by
  obtain ⟨D, R, X, e, hD, hX, hl, hst, rfl⟩ := h.h
  have hR : R = [] := by
    have := congrArg List.length e
    rw [List.length_append] at this
    exact List.eq_nil_of_length_eq_zero (by omega)
  subst hR
  rw [List.append_nil] at e
  subst e
  exact ⟨X, by simp, hX, hl, hst⟩

set_option maxRecDepth 100000 in
set_option maxHeartbeats 6400000 in
theorem inss_any (g cap a b n : Nat) (A U B : List Pr) (S : Nat → Prop) (w : World) (h : PRow w S (.slice (some ⟨g, 0, none⟩) n cap) (A ++ U ++ B)) (hn : (A ++ U ++ B).length = n) (hl : n ≤ 10000000) (ha : A.length = a) (hb : a + U.length = b) :
    Calls Try.prog 66 #[.slice (some ⟨g, 0, none⟩) n cap, .int .i64 a, .int .i64 b, .func (.func 39) #[] #[]] w fun e w' =>
      e = .returned (.tuple #[]) ∧ ∃ X, X.length = U.length ∧ Le X ∧ Stb U X ∧ Wk2 w S g n cap w' (A ++ X ++ B) := by
  have HS := Lib.hid (Wk2.start h hn)
  have hbn : b ≤ n := by rw [← hn]; simp only [List.length_append]; omega
  clear h hn
  have mixed : Try.prog.follows .mixedOrders = true := by kernel_rfl
  by_cases hU : 0 < U.length
  · have HI := Lib.hid (Ins.start A U B hU)
    go_enter Try.func66, Try.ntmps66
    go_wp2_with (fail)
    go_loopw [8] (fun x wr => ∃ (i : Nat) (cur : List Pr), x = .int .i64 i ∧ a < i ∧ i ≤ b ∧ Ins A U B (i - a) cur ∧ Wk2 w S g n cap wr cur) (fun x _ => b - (intOf x).toNat)
    case atStart => exact ⟨a + 1, _, by go_num, by omega, by omega, by rw [show a + 1 - a = 1 by omega]; exact HI.out, HS.out⟩
    case round =>
      clear HI HS
      obtain ⟨i, cur, rfl, hai, hib, hI, hW⟩ := hrel
      by_cases hlt : i < b
      · have hltI : (i : Int) < (b : Int) := by omega
        have HJ := Lib.hid (hI.inner (by omega))
        rw [show A.length + (i - a) = i by omega] at HJ
        have HW := Lib.hid hW
        clear hI hW
        go_wp2_with (fail)
        go_loopw [9] (fun x wr2 => ∃ (j : Nat) (cur : List Pr), x = .int .i64 j ∧ a ≤ j ∧ j ≤ i ∧ InsJ A U B (i - a) j cur ∧ Wk2 w S g n cap wr2 cur) (fun x _ => (intOf x).toNat)
        case atStart => exact ⟨i, cur, rfl, by omega, Nat.le_refl _, HJ.out, HW.out⟩
        case round =>
          clear HJ HW
          obtain ⟨j, cj, rfl, haj, hji, hJ, hW⟩ := hrel
          have HJ := Lib.hid hJ
          have HW := Lib.hid hW
          clear hJ hW
          by_cases hja : a < j
          · obtain ⟨m, rfl⟩ : ∃ m, j = m + 1 := ⟨j - 1, by omega⟩
            obtain ⟨p, hp⟩ : ∃ p, cj[m + 1]? = some p := ⟨_, List.getElem?_eq_getElem (by rw [HW.out.len]; omega)⟩
            obtain ⟨q, hq⟩ : ∃ q, cj[m]? = some q := ⟨_, List.getElem?_eq_getElem (by rw [HW.out.len]; omega)⟩
            have jg : decide ((a : Int) < (m : Int) + 1) = true := decide_eq_true (by omega)
            have jg2 : (a : Int) < (m : Int) + 1 := by omega
            have e1 : ((m : Int) + 1).toNat = m + 1 := by omega
            have p1 : (0 : Int) ≤ (m : Int) + 1 := by omega
            have b1 : (m : Int) + 1 < (n : Int) := by omega
            have b2 : (m : Int) < (n : Int) := by omega
            have r2 : IntKind.i64.wrap (m : Int) = (m : Int) := by rw [IntKind.wrap_i64]; omega
            obtain ⟨g0, g1⟩ := HW.out.cellG (m + 1) p hp
            obtain ⟨g2, g3⟩ := HW.out.cellG m q hq
            obtain ⟨pk, pv⟩ := p
            obtain ⟨qk, qv⟩ := q
            dsimp only at g0 g1 g2 g3
            have c := fun W => new1_any pk pv qk qv W
            by_cases hpq : pk < qk
            · rw [cmpI_neg hpq] at c
              have HN := Lib.hid (HJ.out.step (by omega) hp hq hpq)
              have HP := Lib.hid hp
              have HQ := Lib.hid hq
              clear hp hq hpq HJ
              go_wp2_with (fail)
              go_quiet_grown (first | (go_at_call 39; exact Calls.grown_of (c _)))
              have HW2 := Lib.hid (HW.out.grown nq osq)
              clear g0 g1 g2 g3 HW
              generalize grow (wr.drewN nq) osq = w2 at HW2 ⊢
              clear nq osq
              obtain ⟨c0, c1, c2, c3⟩ := HW2.out.cell (m + 1) _ HP.out
              obtain ⟨d0, d1, d2, d3⟩ := HW2.out.cell m _ HQ.out
              have HF := Lib.hid ((HW2.out.swap (m + 1) m _ _ HP.out HQ.out).drew)
              unfold swW at HF
              dsimp only at HF c0 c1 d0 d1
              clear HP HQ HW2
              have hne : ¬ m + 1 = m := by omega
              go_wp2_with (fail)
              go_region
              go_wp2_with (fail)
              go_roundw
              case rel => exact ⟨m, _, by go_num, by omega, by omega, HN.out, HF.out⟩
              case measure => simp [intOf]
            · obtain ⟨z, hz, hzn⟩ := cmpI_nneg hpq
              rw [hz] at c
              have HI := Lib.hid (HJ.out.stop (.inr ⟨_, _, hp, hq, by omega, hpq⟩))
              clear hp hq hpq hz HJ
              go_wp2_with (fail)
              go_quiet_grown (first | (go_at_call 39; exact Calls.grown_of (c _)))
              have HW2 := Lib.hid (HW.out.grown nq osq)
              clear g0 g1 g2 g3 HW
              generalize grow (wr.drewN nq) osq = w2 at HW2 ⊢
              clear nq osq
              go_wp2_with (fail)
              go_roundw
              case rel => exact ⟨i + 1, _, by go_num, by omega, by omega, by rw [show i + 1 - a = i - a + 1 by omega]; exact HI.out, HW2.out⟩
              case measure => simp [intOf]; omega
          · have jg : decide ((j : Int) > (a : Int)) = false := decide_eq_false (by omega)
            have jg2 : ¬ (a : Int) < (j : Int) := by omega
            have HI := Lib.hid (HJ.out.stop (.inl (by omega)))
            clear HJ
            go_wp2_with (fail)
            go_region
            have HW2 := Lib.hid (HW.out.drew)
            clear HW
            generalize wr.drew = w2 at HW2 ⊢
            go_wp2_with (fail)
            go_roundw
            case rel => exact ⟨i + 1, _, by go_num, by omega, by omega, by rw [show i + 1 - a = i - a + 1 by omega]; exact HI.out, HW2.out⟩
            case measure => simp [intOf]; omega
      · obtain rfl : i = b := by omega
        have hltI : ¬ (i : Int) < (i : Int) := by omega
        go_wp2_with (fail)
        go_end0
        rw [show i - a = U.length by omega] at hI
        obtain ⟨X, rfl, h1, h2, h3⟩ := hI.done
        exact ⟨rfl, X, h1, h2, h3, by simpa only [List.append_assoc] using hW⟩
  · have e : U = [] := List.eq_nil_of_length_eq_zero (by omega)
    subst e
    have hab : ¬ (a : Int) + 1 < (b : Int) := by rw [List.length_nil] at hb; omega
    rw [List.length_nil] at hb
    go_enter Try.func66, Try.ntmps66
    go_wp2_with (fail)
    refine wp_loop_rounds 1 ?_
    rw [rounds_succ]
    go_wp2_with (fail)
    go_end0
    exact ⟨rfl, [], rfl, Le.nil, Stb.refl _, by simpa only [List.append_assoc] using HS.out⟩
end Go.Proofs.Ytadfnbmogobopaa
