/- slices.symMergeCmpFunc where one of the two parts is one pair. No condition: lemmas. -/
import Derived.Test.YtadfnbmogobopaaMdB
namespace Go.Proofs.Ytadfnbmogobopaa
open Go.RowKit Go.Sort
set_option linter.all false

/-- A search among sorted pairs for the first one of which P does not hold. -/
structure Sr (V : List Pr) (P : Pr → Prop) (i j : Nat) : Prop where
  lo : ∀ (t : Nat) (x : Pr), V[t]? = some x → t < i → P x
  hi : ∀ (t : Nat) (x : Pr), V[t]? = some x → j ≤ t → ¬ P x
theorem Sr.start (V : List Pr) (P : Pr → Prop) : Sr V P 0 V.length :=
  ⟨fun t x _ h => absurd h (by omega), fun t x h hl => absurd (List.getElem?_eq_some_iff.1 h).1 (by omega)⟩
theorem Sr.low {V : List Pr} {P : Pr → Prop} {i j k : Nat} {x : Pr} (h : Sr V P i j) (hV : Le V) (hP : ∀ x y : Pr, x.1 ≤ y.1 → P y → P x) (hx : V[k]? = some x) (hp : P x) : Sr V P (k + 1) j :=
  ⟨fun t y hy ht => hP y x (hV.at t k y x (by omega) hy hx) hp, h.hi⟩
theorem Sr.high {V : List Pr} {P : Pr → Prop} {i j k : Nat} {x : Pr} (h : Sr V P i j) (hV : Le V) (hP : ∀ x y : Pr, x.1 ≤ y.1 → P y → P x) (hx : V[k]? = some x) (hp : ¬ P x) : Sr V P i k :=
  ⟨h.lo, fun t y hy ht hpy => hp (hP x y (hV.at k t x y ht hx hy) hpy)⟩
theorem Sr.parts {V : List Pr} {P : Pr → Prop} {i : Nat} (h : Sr V P i i) : (∀ x ∈ V.take i, P x) ∧ ∀ x ∈ V.drop i, ¬ P x := by
  constructor
  · intro x hx
    obtain ⟨t, ht⟩ := List.getElem?_of_mem hx
    have := (List.getElem?_eq_some_iff.1 ht).1
    rw [List.length_take] at this
    rw [List.getElem?_take_of_lt (by omega)] at ht
    exact h.lo t x ht (by omega)
  · intro x hx
    obtain ⟨t, ht⟩ := List.getElem?_of_mem hx
    rw [List.getElem?_drop] at ht
    exact h.hi _ x ht (by omega)

/-- What a merge leaves. -/
def MrgIs (w0 : World) (S : Nat → Prop) (g n cap : Nat) (A U V B : List Pr) (w' : World) : Prop :=
  ∃ X, X.length = U.length + V.length ∧ Le X ∧ Stb (U ++ V) X ∧ Wk2 w0 S g n cap w' (A ++ X ++ B)

theorem at_left {A U V B : List Pr} {a h : Nat} (ha : A.length = a) (h1 : a ≤ h) (h2 : h < a + U.length) : (A ++ U ++ V ++ B)[h]? = U[h - a]? := by
  rw [List.append_assoc, List.append_assoc, List.getElem?_append_right (by omega), List.getElem?_append_left (by omega), ha]
theorem at_right {A U V B : List Pr} {m h : Nat} (hm : A.length + U.length = m) (h1 : m ≤ h) (h2 : h < m + V.length) : (A ++ U ++ V ++ B)[h]? = V[h - m]? := by
  rw [List.append_assoc, List.getElem?_append_right (by rw [List.length_append]; omega), List.getElem?_append_left (by rw [List.length_append]; omega), List.length_append, hm]

theorem sym1_end {A V B : List Pr} {u : Pr} {a k : Nat} (ha : A.length = a) (hV : Le V) (hk : k ≤ V.length) (h : Sr V (fun x => x.1 < u.1) k k) :
    ∃ X, X.length = 1 + V.length ∧ Le X ∧ Stb ([u] ++ V) X ∧ upR (A ++ [u] ++ V ++ B) a k = A ++ X ++ B := by
  obtain ⟨h1, h2⟩ := h.parts
  have e : V = V.take k ++ V.drop k := (List.take_append_drop k V).symm
  refine ⟨V.take k ++ u :: V.drop k, by simp; omega, first_le (by rw [← e]; exact hV) h1 (fun x hx => by have := h2 x hx; omega), ?_, ?_⟩
  · have := first_stb (V1 := V.take k) (V2 := V.drop k) h1
    rw [← e] at this
    exact this
  · have := upR_all A u (V.take k) (V.drop k ++ B) a k ha.symm (by rw [List.length_take]; omega)
    rw [← List.append_assoc, ← e] at this
    simp only [List.append_assoc, List.cons_append, List.nil_append] at this ⊢
    exact this
theorem sym2_end {A U B : List Pr} {v : Pr} {m k : Nat} (hm : A.length + U.length = m) (hU : Le U) (hk : k ≤ U.length) (h : Sr U (fun x => x.1 ≤ v.1) k k) :
    ∃ X, X.length = U.length + 1 ∧ Le X ∧ Stb (U ++ [v]) X ∧ dnR (A ++ U ++ [v] ++ B) m (U.length - k) = A ++ X ++ B := by
  obtain ⟨h1, h2⟩ := h.parts
  have e : U = U.take k ++ U.drop k := (List.take_append_drop k U).symm
  refine ⟨U.take k ++ v :: U.drop k, by simp; omega, ins_le (by rw [← e]; exact hU) h1 (fun x hx => by have := h2 x hx; omega), ?_, ?_⟩
  · have := ins_stb (X1 := U.take k) (X2 := U.drop k) (y := v) (fun x hx => by have := h2 x hx; omega)
    rw [← e] at this
    exact this
  · have := dnR_some A (U.take k) (U.drop k) v B m (U.length - k) (by rw [List.length_take, List.length_drop]; omega) (by rw [List.length_drop])
    rw [← e] at this
    simp only [List.append_assoc, List.cons_append, List.nil_append] at this ⊢
    exact this

set_option maxRecDepth 100000 in
set_option maxHeartbeats 6400000 in
theorem sym1_any (g cap n a m b : Nat) (A V B : List Pr) (u : Pr) (S : Nat → Prop) (w w0 : World) (h : Wk2 w0 S g n cap w (A ++ [u] ++ V ++ B)) (hl : n ≤ 10000000) (ha : A.length = a) (hm : a + 1 = m) (hb : m + V.length = b) (hV : Le V) :
    Calls Try.prog 67 #[.slice (some ⟨g, 0, none⟩) n cap, .int .i64 a, .int .i64 m, .int .i64 b, .func (.func 39) #[] #[]] w fun e w' => e = .returned (.tuple #[]) ∧ MrgIs w0 S g n cap A [u] V B w' := by
  have HS := Lib.hid h
  have hbn : b ≤ n := by have := h.len; simp only [List.length_append, List.length_singleton] at this; omega
  have HE : Hid (∀ k, k ≤ V.length → Sr V (fun x => x.1 < u.1) k k → ∃ X, X.length = 1 + V.length ∧ Le X ∧ Stb ([u] ++ V) X ∧ upR (A ++ [u] ++ V ++ B) a k = A ++ X ++ B) := Lib.hid (fun k hk hs => sym1_end ha hV hk hs)
  have HU : Hid ((A ++ [u] ++ V ++ B)[a]? = some u) := Lib.hid (by rw [at_left ha (Nat.le_refl _) (by simp)]; simp)
  have HR : Hid (∀ h, m ≤ h → h < b → (A ++ [u] ++ V ++ B)[h]? = V[h - m]?) := Lib.hid (fun h h1 h2 => at_right (by simp; omega) h1 (by omega))
  have HV := Lib.hid hV
  have hma : (m : Int) - (a : Int) = 1 := by omega
  have mixed : Try.prog.follows .mixedOrders = true := by kernel_rfl
  clear h ha hV
  unfold MrgIs
  generalize A ++ [u] ++ V ++ B = cur at HS HE HU HR
  generalize hvl : V.length = vl at *
  have HVL := Lib.hid hvl
  clear hvl
  go_enter Try.func67, Try.ntmps67
  go_wp2_with (fail)
  go_loopw [10, 11] (fun x y wr => ∃ (i j : Nat), x = .int .i64 i ∧ y = .int .i64 j ∧ m ≤ i ∧ i ≤ j ∧ j ≤ b ∧ Sr V (fun x => x.1 < u.1) (i - m) (j - m) ∧ Wk2 w0 S g n cap wr cur) (fun x y _ => (intOf y).toNat - (intOf x).toNat)
  case atStart => exact ⟨m, b, rfl, rfl, Nat.le_refl _, by omega, Nat.le_refl _, by rw [Nat.sub_self, show b - m = V.length by rw [HVL.out]; omega]; exact Sr.start V _, HS.out⟩
  case round =>
    clear HS
    obtain ⟨i, j, rfl, rfl, hmi, hij0, hjb, hSr, hW⟩ := hrel
    have HSr := Lib.hid hSr
    have HW := Lib.hid hW
    clear hSr hW
    by_cases hij : i < j
    · obtain ⟨h, hh⟩ : ∃ h : Nat, (i + j) / 2 = h := ⟨_, rfl⟩
      have hhI : ((i : Int) + (j : Int)) / 2 = (h : Int) := by omega
      have h1 : i ≤ h := by omega
      have h2 : h < j := by omega
      have hij' : (i : Int) < (j : Int) := by omega
      have hh0 : (0 : Int) ≤ (h : Int) := by omega
      have hhl : (h : Int) < (n : Int) := by omega
      have ha0 : (0 : Int) ≤ (a : Int) := by omega
      have hal : (a : Int) < (n : Int) := by omega
      obtain ⟨p, hp⟩ : ∃ p, cur[h]? = some p := ⟨_, List.getElem?_eq_getElem (by rw [HW.out.len]; omega)⟩
      obtain ⟨g0, g1⟩ := HW.out.cellG h p hp
      obtain ⟨g2, g3⟩ := HW.out.cellG a u HU.out
      rw [HR.out h (by omega) (by omega)] at hp
      obtain ⟨pk, pv⟩ := p
      obtain ⟨uk, uv⟩ := u
      dsimp only at g0 g1 g2 g3
      have c := fun W => new1_any pk pv uk uv W
      by_cases hpq : pk < uk
      · rw [cmpI_neg hpq] at c
        have HN := Lib.hid (HSr.out.low HV.out (fun x y h1 h2 => Int.lt_of_le_of_lt h1 h2) hp hpq)
        clear hp hpq HSr
        go_wp2_with (fail)
        go_quiet_grown (first | (go_at_call 39; exact Calls.grown_of (c _)))
        have HW2 := Lib.hid (HW.out.grown nq osq)
        clear g0 g1 g2 g3 HW
        generalize grow (wr.drewN nq) osq = w2 at HW2 ⊢
        clear nq osq
        go_wp2_with (fail)
        go_roundw
        case rel => exact ⟨h + 1, j, by go_num, rfl, by omega, by omega, hjb, by rw [show h + 1 - m = h - m + 1 by omega]; exact HN.out, HW2.out⟩
        case measure => simp [intOf]; omega
      · obtain ⟨z, hz, hzn⟩ := cmpI_nneg hpq
        rw [hz] at c
        have HN := Lib.hid (HSr.out.high HV.out (fun x y h1 h2 => Int.lt_of_le_of_lt h1 h2) hp hpq)
        clear hp hpq hz HSr
        go_wp2_with (fail)
        go_quiet_grown (first | (go_at_call 39; exact Calls.grown_of (c _)))
        have HW2 := Lib.hid (HW.out.grown nq osq)
        clear g0 g1 g2 g3 HW
        generalize grow (wr.drewN nq) osq = w2 at HW2 ⊢
        clear nq osq
        go_wp2_with (fail)
        go_roundw
        case rel => exact ⟨i, h, rfl, by go_num, hmi, by omega, by omega, HN.out, HW2.out⟩
        case measure => simp [intOf]; omega
    · obtain rfl : i = j := by omega
      have hij' : ¬ (i : Int) < (i : Int) := by omega
      have HE2 := Lib.hid (HE.out (i - m) (by omega) HSr.out)
      have HL : Hid (cur.length = n) := Lib.hid HW.out.len
      clear HE HSr HR HU
      go_wp2_with (fail)
      go_loopw [13] (fun x wr2 => ∃ c : Nat, x = .int .i64 ((a : Int) + (c : Int)) ∧ c ≤ i - m ∧ Wk2 w0 S g n cap wr2 (upR cur a c)) (fun x _ => n - (intOf x).toNat)
      case atStart => exact ⟨0, by go_num, Nat.zero_le _, HW.out⟩
      case round =>
        clear HW
        obtain ⟨c, rfl, hci, hW⟩ := hrel
        have HW := Lib.hid hW
        clear hW
        by_cases hlt : c < i - m
        · obtain ⟨x, hx⟩ : ∃ x : Nat, a + c = x := ⟨_, rfl⟩
          have hxI : (a : Int) + (c : Int) = (x : Int) := by omega
          rw [hxI]
          have hltI : (x : Int) < (i : Int) - 1 := by omega
          have e1 : ((x : Int) + 1).toNat = x + 1 := by omega
          have p1 : (0 : Int) ≤ (x : Int) + 1 := by omega
          have b1 : (x : Int) + 1 < (n : Int) := by omega
          have b2 : (x : Int) < (n : Int) := by omega
          have r2 : IntKind.i64.wrap ((x : Int) + 1) = (x : Int) + 1 := by rw [IntKind.wrap_i64]; omega
          have hxy : ¬ x = x + 1 := by omega
          obtain ⟨p, hp⟩ : ∃ p, (upR cur a c)[x]? = some p := ⟨_, List.getElem?_eq_getElem (by rw [upR_len, HL.out]; omega)⟩
          obtain ⟨q, hq⟩ : ∃ q, (upR cur a c)[x + 1]? = some q := ⟨_, List.getElem?_eq_getElem (by rw [upR_len, HL.out]; omega)⟩
          obtain ⟨p0, p1', p2, p3⟩ := HW.out.cell x p hp
          obtain ⟨q0, q1, q2, q3⟩ := HW.out.cell (x + 1) q hq
          have HF := Lib.hid ((HW.out.swap x (x + 1) p q hp hq).drew)
          obtain ⟨pk, pv⟩ := p
          obtain ⟨qk, qv⟩ := q
          dsimp only at p0 p1' q0 q1
          unfold swW at HF
          dsimp only at HF
          clear hp hq hxI
          go_wp2_with (fail)
          go_region
          go_wp2_with (fail)
          go_roundw
          case rel => exact ⟨c + 1, by subst hx; go_num, by omega, by subst hx; exact HF.out⟩
          case measure => simp [intOf]; omega
        · have hltI : ¬ (a : Int) + (c : Int) < (i : Int) - 1 := by omega
          obtain rfl : c = i - m := by omega
          go_wp2_with (fail)
          refine bodyPost_ret (results_none rfl _ _ _) rfl ?_
          obtain ⟨X, e1, e2, e3, e4⟩ := HE2.out
          have hW := HW.out
          rw [e4] at hW
          exact ⟨rfl, X, by simpa [HVL.out] using e1, e2, e3, by simpa only [List.append_assoc] using hW⟩

set_option maxRecDepth 100000 in
set_option maxHeartbeats 6400000 in
theorem sym2_any (g cap n a m b : Nat) (A U B : List Pr) (v : Pr) (S : Nat → Prop) (w w0 : World) (h : Wk2 w0 S g n cap w (A ++ U ++ [v] ++ B)) (hl : n ≤ 10000000) (ha : A.length = a) (hm : a + U.length = m) (hb : m + 1 = b) (hU : Le U) (hU1 : ¬ U.length = 1) :
    Calls Try.prog 67 #[.slice (some ⟨g, 0, none⟩) n cap, .int .i64 a, .int .i64 m, .int .i64 b, .func (.func 39) #[] #[]] w fun e w' => e = .returned (.tuple #[]) ∧ MrgIs w0 S g n cap A U [v] B w' := by
  have HS := Lib.hid h
  have hbn : b ≤ n := by have := h.len; simp only [List.length_append, List.length_singleton] at this; omega
  have HE : Hid (∀ k, k ≤ U.length → Sr U (fun x => x.1 ≤ v.1) k k → ∃ X, X.length = U.length + 1 ∧ Le X ∧ Stb (U ++ [v]) X ∧ dnR (A ++ U ++ [v] ++ B) m (U.length - k) = A ++ X ++ B) := Lib.hid (fun k hk hs => sym2_end (by omega) hU hk hs)
  have HV : Hid ((A ++ U ++ [v] ++ B)[m]? = some v) := Lib.hid (by rw [at_right (V := [v]) (by omega) (Nat.le_refl _) (by simp)]; simp)
  have HR : Hid (∀ h, a ≤ h → h < m → (A ++ U ++ [v] ++ B)[h]? = U[h - a]?) := Lib.hid (fun h h1 h2 => at_left ha h1 (by omega))
  have HU := Lib.hid hU
  have hmab : ((m : Int) - (a : Int) == 1) = false := by have : ¬ (m : Int) - (a : Int) = 1 := by omega
                                                         simp [this]
  have hbm : (b : Int) - (m : Int) = 1 := by omega
  have mixed : Try.prog.follows .mixedOrders = true := by kernel_rfl
  clear h ha hU hU1
  unfold MrgIs
  generalize A ++ U ++ [v] ++ B = cur at HS HE HV HR
  generalize hul : U.length = ul at *
  have HUL := Lib.hid hul
  clear hul
  go_enter Try.func67, Try.ntmps67
  go_wp2_with (fail)
  go_loopw [14, 15] (fun x y wr => ∃ (i j : Nat), x = .int .i64 i ∧ y = .int .i64 j ∧ a ≤ i ∧ i ≤ j ∧ j ≤ m ∧ Sr U (fun x => x.1 ≤ v.1) (i - a) (j - a) ∧ Wk2 w0 S g n cap wr cur) (fun x y _ => (intOf y).toNat - (intOf x).toNat)
  case atStart => exact ⟨a, m, rfl, rfl, Nat.le_refl _, by omega, Nat.le_refl _, by rw [Nat.sub_self, show m - a = U.length by rw [HUL.out]; omega]; exact Sr.start U _, HS.out⟩
  case round =>
    clear HS
    obtain ⟨i, j, rfl, rfl, hmi, hij0, hjb, hSr, hW⟩ := hrel
    have HSr := Lib.hid hSr
    have HW := Lib.hid hW
    clear hSr hW
    by_cases hij : i < j
    · obtain ⟨h, hh⟩ : ∃ h : Nat, (i + j) / 2 = h := ⟨_, rfl⟩
      have hhI : ((i : Int) + (j : Int)) / 2 = (h : Int) := by omega
      have h1 : i ≤ h := by omega
      have h2 : h < j := by omega
      have hij' : (i : Int) < (j : Int) := by omega
      have hh0 : (0 : Int) ≤ (h : Int) := by omega
      have hhl : (h : Int) < (n : Int) := by omega
      have hm0 : (0 : Int) ≤ (m : Int) := by omega
      have hml : (m : Int) < (n : Int) := by omega
      obtain ⟨p, hp⟩ : ∃ p, cur[h]? = some p := ⟨_, List.getElem?_eq_getElem (by rw [HW.out.len]; omega)⟩
      obtain ⟨g0, g1⟩ := HW.out.cellG h p hp
      obtain ⟨g2, g3⟩ := HW.out.cellG m v HV.out
      rw [HR.out h (by omega) (by omega)] at hp
      obtain ⟨pk, pv⟩ := p
      obtain ⟨uk, uv⟩ := v
      dsimp only at g0 g1 g2 g3
      have c := fun W => new1_any uk uv pk pv W
      by_cases hpq : uk < pk
      · obtain ⟨z, hz, hzn⟩ : ∃ z, cmpI uk pk = z ∧ z < 0 := ⟨_, cmpI_neg hpq, by decide⟩
        rw [hz] at c
        have hzd : decide (z < 0) = true := decide_eq_true hzn
        have hzb : (!decide (z < 0)) = false := by rw [hzd]; rfl
        clear hz
        have HN := Lib.hid (HSr.out.high HU.out (fun x y h1 h2 => Int.le_trans h1 h2) hp (by dsimp only; omega))
        clear hp hpq HSr
        go_wp2_with (fail)
        go_quiet_grown (first | (go_at_call 39; exact Calls.grown_of (c _)))
        have HW2 := Lib.hid (HW.out.grown nq osq)
        clear g0 g1 g2 g3 HW
        generalize grow (wr.drewN nq) osq = w2 at HW2 ⊢
        clear nq osq
        go_wp2_with (fail)
        go_roundw
        case rel => exact ⟨i, h, rfl, by go_num, hmi, by omega, by omega, HN.out, HW2.out⟩
        case measure => simp [intOf]; omega
      · obtain ⟨z, hz, hzn⟩ := cmpI_nneg hpq
        rw [hz] at c
        have hzd : decide (z < 0) = false := decide_eq_false hzn
        have hzb : (!decide (z < 0)) = true := by rw [hzd]; rfl
        have HN := Lib.hid (HSr.out.low HU.out (fun x y h1 h2 => Int.le_trans h1 h2) hp (by dsimp only; omega))
        clear hp hpq hz HSr
        go_wp2_with (fail)
        go_quiet_grown (first | (go_at_call 39; exact Calls.grown_of (c _)))
        have HW2 := Lib.hid (HW.out.grown nq osq)
        clear g0 g1 g2 g3 HW
        generalize grow (wr.drewN nq) osq = w2 at HW2 ⊢
        clear nq osq
        go_wp2_with (fail)
        go_roundw
        case rel => exact ⟨h + 1, j, by go_num, rfl, by omega, by omega, hjb, by rw [show h + 1 - a = h - a + 1 by omega]; exact HN.out, HW2.out⟩
        case measure => simp [intOf]; omega
    · obtain rfl : i = j := by omega
      have hij' : ¬ (i : Int) < (i : Int) := by omega
      have HE2 := Lib.hid (HE.out (i - a) (by omega) HSr.out)
      have HL : Hid (cur.length = n) := Lib.hid HW.out.len
      clear HE HSr HR HV
      go_wp2_with (fail)
      go_loopw [17] (fun x wr2 => ∃ c : Nat, x = .int .i64 ((m : Int) - (c : Int)) ∧ c ≤ m - i ∧ Wk2 w0 S g n cap wr2 (dnR cur m c)) (fun x _ => (intOf x).toNat)
      case atStart => exact ⟨0, by go_num, Nat.zero_le _, HW.out⟩
      case round =>
        clear HW
        obtain ⟨c, rfl, hci, hW⟩ := hrel
        have HW := Lib.hid hW
        clear hW
        by_cases hlt : c < m - i
        · obtain ⟨x, hx⟩ : ∃ x : Nat, m - c - 1 = x := ⟨_, rfl⟩
          have hx2 : m - c = x + 1 := by omega
          have hxI : (m : Int) - (c : Int) = (x : Int) + 1 := by omega
          rw [hxI]
          have hltI : (i : Int) < (x : Int) + 1 := by omega
          have e1 : ((x : Int) + 1).toNat = x + 1 := by omega
          have p1 : (0 : Int) ≤ (x : Int) + 1 := by omega
          have b1 : (x : Int) + 1 < (n : Int) := by omega
          have b2 : (x : Int) < (n : Int) := by omega
          have r2 : IntKind.i64.wrap (x : Int) = (x : Int) := by rw [IntKind.wrap_i64]; omega
          have hxy : ¬ x + 1 = x := by omega
          obtain ⟨p, hp⟩ : ∃ p, (dnR cur m c)[x + 1]? = some p := ⟨_, List.getElem?_eq_getElem (by rw [dnR_len, HL.out]; omega)⟩
          obtain ⟨q, hq⟩ : ∃ q, (dnR cur m c)[x]? = some q := ⟨_, List.getElem?_eq_getElem (by rw [dnR_len, HL.out]; omega)⟩
          obtain ⟨p0, p1', p2, p3⟩ := HW.out.cell (x + 1) p hp
          obtain ⟨q0, q1, q2, q3⟩ := HW.out.cell x q hq
          have HF := Lib.hid ((HW.out.swap (x + 1) x p q hp hq).drew)
          obtain ⟨pk, pv⟩ := p
          obtain ⟨qk, qv⟩ := q
          dsimp only at p0 p1' q0 q1
          unfold swW at HF
          dsimp only at HF
          clear hp hq hxI
          go_wp2_with (fail)
          go_region
          go_wp2_with (fail)
          go_roundw
          case rel => exact ⟨c + 1, by congr 1; omega, by omega, by show Wk2 w0 S g n cap _ (swp (dnR cur m c) (m - c) (m - c - 1)); rw [hx, hx2]; exact HF.out⟩
          case measure => simp [intOf]
        · have hltI : ¬ (i : Int) < (m : Int) - (c : Int) := by omega
          obtain rfl : c = m - i := by omega
          go_wp2_with (fail)
          refine bodyPost_ret (results_none rfl _ _ _) rfl ?_
          obtain ⟨X, e1, e2, e3, e4⟩ := HE2.out
          have hW := HW.out
          rw [show m - i = ul - (i - a) by omega, e4] at hW
          exact ⟨rfl, X, by simpa [HUL.out] using e1, e2, e3, by simpa only [List.append_assoc] using hW⟩
end Go.Proofs.Ytadfnbmogobopaa
