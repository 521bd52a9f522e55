/- Two pairs of a row of one's own change places; the comparison by key; slices.swapRangeCmpFunc. No condition: lemmas. The comparison by key, as model.New hands it to the sort; slices.insertionSortCmpFunc. No condition: lemmas. slices.Reverse and slices.rotateCmpFunc on a row of pairs of one's own. No condition: lemmas. slices.symMergeCmpFunc where one of the two parts is one pair. No condition: lemmas. -/
import Derived.Test.YtijepfabkalcoaaMdM
import Derived.Test.YtijepfabkalcoaaLfA
import Derived.BigRegion
import Derived.Shelf.SlSortCmp.QuietGrown
namespace Go.Proofs.Ytijepfabkalcoaa
open Go.RowKit Go.Sort
set_option linter.all false

theorem cellsP_set (l : List Pr) : ∀ (i : Nat) (q : Pr), cellsP (l.set i q) = ((cellsP l).set (i * 2) (.int .i64 q.1)).set (i * 2 + 1) (.int .i64 q.2) := by
  induction l with
  | nil => intro i q; simp [cellsP]
  | cons x l ih =>
    intro i q
    cases i with
    | zero => simp [cellsP]
    | succ i =>
      have e : (i + 1) * 2 = i * 2 + 1 + 1 := by omega
      rw [e]
      simp only [List.set_cons_succ, cellsP, ih i q]

/-- One pair of a row is written. -/
theorem PRow.set {w : World} {S : Nat → Prop} {g n cap : Nat} {l : List Pr} (h : PRow w S (.slice (some ⟨g, 0, none⟩) n cap) l) (hn : n = l.length) (i : Nat) (q : Pr) :
    PRow ((w.setCell ⟨g, i * 2, none⟩ (.int .i64 q.1)).setCell ⟨g, i * 2 + 1, none⟩ (.int .i64 q.2)) S (.slice (some ⟨g, 0, none⟩) n cap) (l.set i q) := by
  subst hn
  have h1 := h.row.stored (i * 2) (.int .i64 q.1)
  have h2 := h1.1.stored (i * 2 + 1) (.int .i64 q.2)
  refine ⟨?_, fun k hk => h.av k hk⟩
  rw [cellsP_set, List.length_set]
  exact h2.1
theorem only_set {w : World} {g : Nat} (a b : Nat) (u v : Value) : Only (fun k => k = g) w ((w.setCell ⟨g, a, none⟩ u).setCell ⟨g, b, none⟩ v) :=
  ((Only.refl (fun k => k = g) w).setCell (p := ⟨g, a, none⟩) (.inl rfl) u).setCell (p := ⟨g, b, none⟩) (.inl rfl) v

/-- The world in which two pairs have changed places. -/
def swW (w : World) (g i j : Nat) (p q : Pr) : World :=
  (((w.setCell ⟨g, i * 2, none⟩ (.int .i64 q.1)).setCell ⟨g, i * 2 + 1, none⟩ (.int .i64 q.2)).setCell ⟨g, j * 2, none⟩ (.int .i64 p.1)).setCell ⟨g, j * 2 + 1, none⟩ (.int .i64 p.2)

/-- A row of one's own that lies in block g, while other functions work on it: nothing else has turned. -/
structure Wk2 (w0 : World) (S : Nat → Prop) (g n cap : Nat) (w : World) (l : List Pr) : Prop where
  row : PRow w S (.slice (some ⟨g, 0, none⟩) n cap) l
  len : l.length = n
  o : Only (fun k => k = g) w0 w
theorem Wk2.start {w : World} {S : Nat → Prop} {g n cap : Nat} {l : List Pr} (h : PRow w S (.slice (some ⟨g, 0, none⟩) n cap) l) (hn : l.length = n) : Wk2 w S g n cap w l := ⟨h, hn, Only.refl _ _⟩
theorem Wk2.swap {w0 w : World} {S : Nat → Prop} {g n cap : Nat} {l : List Pr} (h : Wk2 w0 S g n cap w l) (i j : Nat) (p q : Pr) (hp : l[i]? = some p) (hq : l[j]? = some q) :
    Wk2 w0 S g n cap (swW w g i j p q) (swp l i j) := by
  have e1 : l.getD i (0, 0) = p := by simp [List.getD, hp]
  have e2 : l.getD j (0, 0) = q := by simp [List.getD, hq]
  refine ⟨?_, by rw [swp_len]; exact h.len, (h.o.trans (only_set _ _ _ _) (fun k hk _ => hk)).trans (only_set _ _ _ _) (fun k hk _ => hk)⟩
  unfold swp swW
  rw [e1, e2]
  exact (h.row.set h.len.symm i q).set (by rw [List.length_set]; exact h.len.symm) j p
theorem Wk2.drew {w0 w : World} {S : Nat → Prop} {g n cap : Nat} {l : List Pr} (h : Wk2 w0 S g n cap w l) : Wk2 w0 S g n cap w.drew l := ⟨⟨h.row.row, h.row.av⟩, h.len, h.o.drew⟩
theorem Wk2.below {w0 w w' : World} {S : Nat → Prop} {g n cap : Nat} {l : List Pr} (h : Wk2 w0 S g n cap w l) (hb : Below w.heap.size w w') : Wk2 w0 S g n cap w' l :=
  ⟨h.row.below hb, h.len, h.o.trans (Only.ofBelow hb) (fun k hk _ => hk)⟩
theorem Wk2.cell {w0 w : World} {S : Nat → Prop} {g n cap : Nat} {l : List Pr} (h : Wk2 w0 S g n cap w l) (i : Nat) (q : Pr) (hq : l[i]? = some q) :
    w.cell? ⟨g, i * 2, none⟩ = some (.int .i64 q.1) ∧ w.cell? ⟨g, i * 2 + 1, none⟩ = some (.int .i64 q.2) ∧ w.frozen? ⟨g, i * 2, none⟩ = false ∧ w.frozen? ⟨g, i * 2 + 1, none⟩ = false := by
  obtain ⟨b, o, e, c0, c1⟩ := (h.row.prs h.len.symm).2.2.1 i q hq
  cases e
  rw [Nat.zero_add] at c0 c1
  have hr := h.row.row
  have hl := h.len
  subst hl
  exact ⟨c0, c1, hr.frozenAt _, hr.frozenAt _⟩
theorem Wk2.hop {w0 w1 w : World} {S : Nat → Prop} {g n cap : Nat} {l l' : List Pr} (h : Wk2 w0 S g n cap w1 l) (k : Wk2 w1 S g n cap w l') : Wk2 w0 S g n cap w l' :=
  ⟨k.row, k.len, h.o.trans k.o (fun k hk _ => hk)⟩

set_option maxRecDepth 100000 in
set_option maxHeartbeats 6400000 in
theorem swr_any (g cap a b n : Nat) (l : List Pr) (S : Nat → Prop) (fv : Value) (w : World) (h : PRow w S (.slice (some ⟨g, 0, none⟩) l.length cap) l) (hl : l.length ≤ 10000000) (ha : a + n ≤ l.length) (hb : b + n ≤ l.length) (hab : ¬ a = b) :
    Calls Try.prog 138 #[.slice (some ⟨g, 0, none⟩) l.length cap, .int .i64 a, .int .i64 b, .int .i64 n, fv] w fun e w' => e = .returned (.tuple #[]) ∧ Wk2 w S g l.length cap w' (swR l a b n) := by
  have HS := Lib.hid (Wk2.start h rfl)
  clear h
  go_enter Try.func138, Try.ntmps138
  go_wp2_with (fail)
  go_loopw [10] (fun x wr => ∃ i : Nat, x = .int .i64 i ∧ i ≤ n ∧ Wk2 w S g l.length cap wr (swR l a b i)) (fun x _ => n - (intOf x).toNat)
  case atStart => exact ⟨0, rfl, Nat.zero_le _, HS.out⟩
  case round =>
    obtain ⟨i, rfl, hin, hW⟩ := hrel
    have HW := Lib.hid hW
    clear hW
    by_cases hlt : i < n
    · obtain ⟨x, hx⟩ : ∃ x : Nat, a + i = x := ⟨_, rfl⟩
      obtain ⟨y, hy⟩ : ∃ y : Nat, b + i = y := ⟨_, rfl⟩
      have hxI : (a : Int) + (i : Int) = (x : Int) := by omega
      have hyI : (b : Int) + (i : Int) = (y : Int) := by omega
      have hxy : ¬ x = y := by omega
      have rx : IntKind.i64.wrap ((a : Int) + (i : Int)) = (x : Int) := by rw [IntKind.wrap_i64]; omega
      have ry : IntKind.i64.wrap ((b : Int) + (i : Int)) = (y : Int) := by rw [IntKind.wrap_i64]; omega
      have hltI : (i : Int) < (n : Int) := by omega
      have hxl : (x : Int) < (l.length : Int) := by omega
      have hyl : (y : Int) < (l.length : Int) := by omega
      have hx0 : (0 : Int) ≤ (x : Int) := by omega
      have hy0 : (0 : Int) ≤ (y : Int) := by omega
      obtain ⟨p, hp⟩ : ∃ p, (swR l a b i)[x]? = some p := ⟨_, List.getElem?_eq_getElem (by rw [swR_len]; omega)⟩
      obtain ⟨q, hq⟩ : ∃ q, (swR l a b i)[y]? = some q := ⟨_, List.getElem?_eq_getElem (by rw [swR_len]; omega)⟩
      obtain ⟨p0, p1, p2, p3⟩ := HW.out.cell x p hp
      obtain ⟨q0, q1, q2, q3⟩ := HW.out.cell y q hq
      have HF := Lib.hid ((HW.out.swap x y p q hp hq).drew)
      obtain ⟨pk, pv⟩ := p
      obtain ⟨qk, qv⟩ := q
      dsimp only at p0 p1 q0 q1
      unfold swW at HF
      dsimp only at HF
      clear hp hq
      go_wp2_with (fail)
      go_region
      go_wp2_with (fail)
      go_roundw
      case rel => exact ⟨i + 1, by go_num, by omega, by subst hx; subst hy; exact HF.out⟩
      case measure => simp [intOf]; omega
    · obtain rfl : i = n := by omega
      go_wp2_with (fail)
      go_end0
      exact ⟨rfl, HW.out⟩
end Go.Proofs.Ytijepfabkalcoaa

namespace Go.Proofs.Ytijepfabkalcoaa
open Go.RowKit Go.Sort
set_option linter.all false

theorem below_grown (w : World) (n : Nat) (os : Array Obj) : Below w.heap.size w (grow (w.drewN n) os) :=
  ⟨rfl, rfl, rfl, by rw [size_grow]; exact Nat.le_add_right _ _, fun k hk => heap_grow_old (w.drewN n) os hk⟩

theorem new1_any (k v k' v' : Int) (w : World) : Calls Try.prog 84 #[.agg #[.int .i64 k, .int .i64 v], .agg #[.int .i64 k', .int .i64 v']] w fun e w' =>
    e = .returned (.int .i64 (cmpI k k')) ∧ ∃ q os', w' = grow (w.drewN q) os' := by
  have c := fun W => cmp_any k k' W
  go_enter Try.func84, Try.ntmps84
  go_wp2_with (go_at_call 85; ((with_reducible refine (c _).mono ?_); rintro e w' ⟨rfl, rfl⟩))
  go_ret
  exact ⟨rfl, 0, _, by rw [alloc_eq_grow, alloc_eq_grow, grow_grow]; rfl⟩

theorem Wk2.grown {w0 w : World} {S : Nat → Prop} {g n cap : Nat} {l : List Pr} (h : Wk2 w0 S g n cap w l) (m : Nat) (os : Array Obj) : Wk2 w0 S g n cap (grow (w.drewN m) os) l := h.below (below_grown w m os)
/-- The cells of a pair, in whatever world with blocks behind. -/
theorem Wk2.cellG {w0 w : World} {S : Nat → Prop} {g n cap : Nat} {l : List Pr} (h : Wk2 w0 S g n cap w l) (i : Nat) (q : Pr) (hq : l[i]? = some q) :
    (∀ m os, (grow (w.drewN m) os).cell? ⟨g, i * 2, none⟩ = some (.int .i64 q.1)) ∧ ∀ m os, (grow (w.drewN m) os).cell? ⟨g, i * 2 + 1, none⟩ = some (.int .i64 q.2) :=
  ⟨fun m os => ((h.grown m os).cell i q hq).1, fun m os => ((h.grown m os).cell i q hq).2.1⟩
theorem cmpI_neg {a b : Int} (h : a < b) : cmpI a b = -1 := by unfold cmpI; rw [if_pos h]
theorem cmpI_nneg {a b : Int} (h : ¬ a < b) : ∃ z, cmpI a b = z ∧ ¬ z < 0 := by
  refine ⟨_, rfl, ?_⟩
  unfold cmpI
  rw [if_neg h]
  split <;> omega

theorem app_at (A : List Pr) (x : Pr) (B : List Pr) (i : Nat) (h : i = A.length) : (A ++ x :: B)[i]? = some x := by subst h; simp
/-- What is between in the sort of a row: the pairs from a on, as many as before. -/
structure Ins (A U B : List Pr) (n : Nat) (cur : List Pr) : Prop where
  h : ∃ D R X, U = D ++ R ∧ D.length = n ∧ X.length = n ∧ Le X ∧ Stb D X ∧ cur = A ++ X ++ R ++ B
/-- The pair at j goes down among those that are sorted. -/
structure InsJ (A U B : List Pr) (n : Nat) (j : Nat) (cur : List Pr) : Prop where
  h : ∃ D y R X1 X2, U = D ++ y :: R ∧ D.length = n ∧ (X1 ++ X2).length = n ∧ Le (X1 ++ X2) ∧ Stb D (X1 ++ X2) ∧ (∀ x ∈ X2, y.1 < x.1) ∧ j = A.length + X1.length ∧ cur = A ++ X1 ++ y :: (X2 ++ R ++ B)
theorem Ins.start (A U B : List Pr) (h : 0 < U.length) : Ins A U B 1 (A ++ U ++ B) := by
  match U, h with
  | u :: U, _ => exact ⟨[u], U, [u], rfl, rfl, rfl, Le.one u, Stb.refl _, by simp⟩
theorem Ins.inner {A U B cur : List Pr} {n : Nat} (h : Ins A U B n cur) (hn : n < U.length) : InsJ A U B n (A.length + n) cur := by
  obtain ⟨D, R, X, rfl, hD, hX, hl, hs, rfl⟩ := h.h
  match R, hn with
  | [], hn => simp at hn; omega
  | y :: R, _ => exact ⟨D, y, R, X, [], rfl, hD, by simpa using hX, by simpa using hl, by simpa using hs, by simp, by omega, by simp⟩
theorem InsJ.stop {A U B cur : List Pr} {n j : Nat} (h : InsJ A U B n j cur) (hs : j ≤ A.length ∨ ∃ p q, cur[j]? = some p ∧ cur[j - 1]? = some q ∧ A.length < j ∧ ¬ p.1 < q.1) : Ins A U B (n + 1) cur := by
  obtain ⟨D, y, R, X1, X2, rfl, hD, hX, hl, hst, hy, rfl, rfl⟩ := h.h
  have h1 : ∀ x ∈ X1, x.1 ≤ y.1 := by
    rcases hs with hs | ⟨p, q, hp, hq, hj, hpq⟩
    · have : X1 = [] := List.eq_nil_of_length_eq_zero (by omega)
      subst this
      simp
    · rw [app_at (A ++ X1) y _ _ (by simp)] at hp
      cases hp
      intro x hx
      obtain ⟨i, hi⟩ := List.getElem?_of_mem hx
      have hi2 := (List.getElem?_eq_some_iff.1 hi).1
      have hq2 : X1[X1.length - 1]? = some q := by
        rw [List.append_assoc, List.getElem?_append_right (by omega), List.getElem?_append_left (by omega)] at hq
        rw [← hq]; congr 1; omega
      have := (Le.app.1 hl).1.at i (X1.length - 1) x q (by omega) hi hq2
      omega
  refine ⟨D ++ [y], R, X1 ++ y :: X2, by simp, by simp [hD], by simp at hX ⊢; omega, ins_le hl h1 hy, (hst.app (Stb.refl [y])).trans (ins_stb hy), by simp⟩
theorem InsJ.step {A U B cur : List Pr} {n j : Nat} {p q : Pr} (h : InsJ A U B n (j + 1) cur) (hj : A.length ≤ j) (hp : cur[j + 1]? = some p) (hq : cur[j]? = some q) (hpq : p.1 < q.1) : InsJ A U B n j (swp cur (j + 1) j) := by
  obtain ⟨D, y, R, X1, X2, rfl, hD, hX, hl, hst, hy, hjl, rfl⟩ := h.h
  have hpos : X1 ≠ [] := by rintro rfl; simp at hjl; omega
  obtain ⟨X0, z, rfl⟩ : ∃ X0 z, X1 = X0 ++ [z] := ⟨X1.dropLast, X1.getLast hpos, (List.dropLast_concat_getLast hpos).symm⟩
  rw [List.length_append, List.length_singleton] at hjl
  rw [app_at (A ++ (X0 ++ [z])) y _ _ (by simp; omega)] at hp
  cases hp
  have e : A ++ (X0 ++ [z]) ++ p :: (X2 ++ R ++ B) = (A ++ X0) ++ z :: p :: (X2 ++ R ++ B) := by simp
  rw [e] at hq ⊢
  rw [app_at (A ++ X0) z _ _ (by simp; omega)] at hq
  cases hq
  rw [swp_back (A ++ X0) q p (X2 ++ R ++ B) (j + 1) j (by simp; omega) (by simp; omega)]
  refine ⟨D, p, R, X0, q :: X2, rfl, hD, by simp at hX ⊢; omega, by simpa using hl, by simpa using hst, fun x hx => ?_, by omega, by simp⟩
  rcases List.mem_cons.1 hx with rfl | hx
  · exact hpq
  · exact hy x hx
theorem Ins.done {A U B cur : List Pr} (h : Ins A U B U.length cur) : ∃ X, cur = A ++ X ++ B ∧ X.length = U.length ∧ Le X ∧ Stb U X := by
  obtain ⟨D, R, X, e, hD, hX, hl, hst, rfl⟩ := h.h
  have hR : R = [] := by
    have := congrArg List.length e
    rw [List.length_append] at this
    exact List.eq_nil_of_length_eq_zero (by omega)
  subst hR
  rw [List.append_nil] at e
  subst e
  exact ⟨X, by simp, hX, hl, hst⟩

set_option maxRecDepth 100000 in
set_option maxHeartbeats 6400000 in
theorem inss_any (g cap a b n : Nat) (A U B : List Pr) (S : Nat → Prop) (w : World) (h : PRow w S (.slice (some ⟨g, 0, none⟩) n cap) (A ++ U ++ B)) (hn : (A ++ U ++ B).length = n) (hl : n ≤ 10000000) (ha : A.length = a) (hb : a + U.length = b) :
    Calls Try.prog 114 #[.slice (some ⟨g, 0, none⟩) n cap, .int .i64 a, .int .i64 b, .func (.func 84) #[] #[]] w fun e w' =>
      e = .returned (.tuple #[]) ∧ ∃ X, X.length = U.length ∧ Le X ∧ Stb U X ∧ Wk2 w S g n cap w' (A ++ X ++ B) := by
  have HS := Lib.hid (Wk2.start h hn)
  have hbn : b ≤ n := by rw [← hn]; simp only [List.length_append]; omega
  clear h hn
  have mixed : Try.prog.follows .mixedOrders = true := by kernel_rfl
  by_cases hU : 0 < U.length
  · have HI := Lib.hid (Ins.start A U B hU)
    go_enter Try.func114, Try.ntmps114
    go_wp2_with (fail)
    go_loopw [8] (fun x wr => ∃ (i : Nat) (cur : List Pr), x = .int .i64 i ∧ a < i ∧ i ≤ b ∧ Ins A U B (i - a) cur ∧ Wk2 w S g n cap wr cur) (fun x _ => b - (intOf x).toNat)
    case atStart => exact ⟨a + 1, _, by go_num, by omega, by omega, by rw [show a + 1 - a = 1 by omega]; exact HI.out, HS.out⟩
    case round =>
      clear HI HS
      obtain ⟨i, cur, rfl, hai, hib, hI, hW⟩ := hrel
      by_cases hlt : i < b
      · have hltI : (i : Int) < (b : Int) := by omega
        have HJ := Lib.hid (hI.inner (by omega))
        rw [show A.length + (i - a) = i by omega] at HJ
        have HW := Lib.hid hW
        clear hI hW
        go_wp2_with (fail)
        go_loopw [9] (fun x wr2 => ∃ (j : Nat) (cur : List Pr), x = .int .i64 j ∧ a ≤ j ∧ j ≤ i ∧ InsJ A U B (i - a) j cur ∧ Wk2 w S g n cap wr2 cur) (fun x _ => (intOf x).toNat)
        case atStart => exact ⟨i, cur, rfl, by omega, Nat.le_refl _, HJ.out, HW.out⟩
        case round =>
          clear HJ HW
          obtain ⟨j, cj, rfl, haj, hji, hJ, hW⟩ := hrel
          have HJ := Lib.hid hJ
          have HW := Lib.hid hW
          clear hJ hW
          by_cases hja : a < j
          · obtain ⟨m, rfl⟩ : ∃ m, j = m + 1 := ⟨j - 1, by omega⟩
            obtain ⟨p, hp⟩ : ∃ p, cj[m + 1]? = some p := ⟨_, List.getElem?_eq_getElem (by rw [HW.out.len]; omega)⟩
            obtain ⟨q, hq⟩ : ∃ q, cj[m]? = some q := ⟨_, List.getElem?_eq_getElem (by rw [HW.out.len]; omega)⟩
            have jg : decide ((a : Int) < (m : Int) + 1) = true := decide_eq_true (by omega)
            have jg2 : (a : Int) < (m : Int) + 1 := by omega
            have e1 : ((m : Int) + 1).toNat = m + 1 := by omega
            have p1 : (0 : Int) ≤ (m : Int) + 1 := by omega
            have b1 : (m : Int) + 1 < (n : Int) := by omega
            have b2 : (m : Int) < (n : Int) := by omega
            have r2 : IntKind.i64.wrap (m : Int) = (m : Int) := by rw [IntKind.wrap_i64]; omega
            obtain ⟨g0, g1⟩ := HW.out.cellG (m + 1) p hp
            obtain ⟨g2, g3⟩ := HW.out.cellG m q hq
            obtain ⟨pk, pv⟩ := p
            obtain ⟨qk, qv⟩ := q
            dsimp only at g0 g1 g2 g3
            have c := fun W => new1_any pk pv qk qv W
            by_cases hpq : pk < qk
            · rw [cmpI_neg hpq] at c
              have HN := Lib.hid (HJ.out.step (by omega) hp hq hpq)
              have HP := Lib.hid hp
              have HQ := Lib.hid hq
              clear hp hq hpq HJ
              go_wp2_with (fail)
              go_quiet_grown (first | (go_at_call 84; exact Calls.grown_of (c _)))
              have HW2 := Lib.hid (HW.out.grown nq osq)
              clear g0 g1 g2 g3 HW
              generalize grow (wr.drewN nq) osq = w2 at HW2 ⊢
              clear nq osq
              obtain ⟨c0, c1, c2, c3⟩ := HW2.out.cell (m + 1) _ HP.out
              obtain ⟨d0, d1, d2, d3⟩ := HW2.out.cell m _ HQ.out
              have HF := Lib.hid ((HW2.out.swap (m + 1) m _ _ HP.out HQ.out).drew)
              unfold swW at HF
              dsimp only at HF c0 c1 d0 d1
              clear HP HQ HW2
              have hne : ¬ m + 1 = m := by omega
              go_wp2_with (fail)
              go_region
              go_wp2_with (fail)
              go_roundw
              case rel => exact ⟨m, _, by go_num, by omega, by omega, HN.out, HF.out⟩
              case measure => simp [intOf]
            · obtain ⟨z, hz, hzn⟩ := cmpI_nneg hpq
              rw [hz] at c
              have HI := Lib.hid (HJ.out.stop (.inr ⟨_, _, hp, hq, by omega, hpq⟩))
              clear hp hq hpq hz HJ
              go_wp2_with (fail)
              go_quiet_grown (first | (go_at_call 84; exact Calls.grown_of (c _)))
              have HW2 := Lib.hid (HW.out.grown nq osq)
              clear g0 g1 g2 g3 HW
              generalize grow (wr.drewN nq) osq = w2 at HW2 ⊢
              clear nq osq
              go_wp2_with (fail)
              go_roundw
              case rel => exact ⟨i + 1, _, by go_num, by omega, by omega, by rw [show i + 1 - a = i - a + 1 by omega]; exact HI.out, HW2.out⟩
              case measure => simp [intOf]; omega
          · have jg : decide ((j : Int) > (a : Int)) = false := decide_eq_false (by omega)
            have jg2 : ¬ (a : Int) < (j : Int) := by omega
            have HI := Lib.hid (HJ.out.stop (.inl (by omega)))
            clear HJ
            go_wp2_with (fail)
            go_region
            have HW2 := Lib.hid (HW.out.drew)
            clear HW
            generalize wr.drew = w2 at HW2 ⊢
            go_wp2_with (fail)
            go_roundw
            case rel => exact ⟨i + 1, _, by go_num, by omega, by omega, by rw [show i + 1 - a = i - a + 1 by omega]; exact HI.out, HW2.out⟩
            case measure => simp [intOf]; omega
      · obtain rfl : i = b := by omega
        have hltI : ¬ (i : Int) < (i : Int) := by omega
        go_wp2_with (fail)
        go_end0
        rw [show i - a = U.length by omega] at hI
        obtain ⟨X, rfl, h1, h2, h3⟩ := hI.done
        exact ⟨rfl, X, h1, h2, h3, by simpa only [List.append_assoc] using hW⟩
  · have e : U = [] := List.eq_nil_of_length_eq_zero (by omega)
    subst e
    have hab : ¬ (a : Int) + 1 < (b : Int) := by rw [List.length_nil] at hb; omega
    rw [List.length_nil] at hb
    go_enter Try.func114, Try.ntmps114
    go_wp2_with (fail)
    refine wp_loop_rounds 1 ?_
    rw [rounds_succ]
    go_wp2_with (fail)
    go_end0
    exact ⟨rfl, [], rfl, Le.nil, Stb.refl _, by simpa only [List.append_assoc] using HS.out⟩
end Go.Proofs.Ytijepfabkalcoaa

namespace Go.Proofs.Ytijepfabkalcoaa
open Go.RowKit Go.Sort
set_option linter.all false

theorem swr_wk {w0 w : World} {S : Nat → Prop} {g n cap : Nat} {l : List Pr} (h : Wk2 w0 S g n cap w l) (a b k : Nat) (fv : Value) (hl : n ≤ 10000000) (ha : a + k ≤ n) (hb : b + k ≤ n) (hab : ¬ a = b) :
    Calls Try.prog 138 #[.slice (some ⟨g, 0, none⟩) n cap, .int .i64 a, .int .i64 b, .int .i64 k, fv] w fun e w' => e = .returned (.tuple #[]) ∧ Wk2 w0 S g n cap w' (swR l a b k) := by
  have hn := h.len
  subst hn
  exact (swr_any g cap a b k l S fv w h.row hl ha hb hab).mono (fun e w' hh => ⟨hh.1, h.hop hh.2⟩)

set_option maxRecDepth 100000 in
set_option maxHeartbeats 6400000 in
theorem rot_any (g cap n a m b : Nat) (A U V B : List Pr) (S : Nat → Prop) (fv : Value) (w w0 : World) (h : Wk2 w0 S g n cap w (A ++ U ++ V ++ B)) (hl : n ≤ 10000000) (ha : A.length = a) (hm : a + U.length = m) (hb : m + V.length = b) (hU : 0 < U.length) (hV : 0 < V.length) :
    Calls Try.prog 129 #[.slice (some ⟨g, 0, none⟩) n cap, .int .i64 a, .int .i64 m, .int .i64 b, fv] w fun e w' => e = .returned (.tuple #[]) ∧ Wk2 w0 S g n cap w' (A ++ V ++ U ++ B) := by
  have HS := Lib.hid h
  have HR := Lib.hid (Rot.start A U V B)
  rw [ha, hm] at HR
  have hbn : b ≤ n := by have := h.len; simp only [List.length_append] at this; omega
  have hi : (m : Int) - (a : Int) = (U.length : Int) := by omega
  have hj : (b : Int) - (m : Int) = (V.length : Int) := by omega
  clear h
  generalize A ++ U ++ V ++ B = cur0 at HS HR
  generalize A ++ V ++ U ++ B = T at HR ⊢
  generalize U.length = i0 at *
  generalize V.length = j0 at *
  clear ha
  clear A U V B
  have hbn2 : m + j0 ≤ n := by omega
  clear hm hb
  go_enter Try.func129, Try.ntmps129
  go_wp2_with (fail)
  go_loopw [10, 11] (fun x y wr => ∃ (i j : Nat) (cur : List Pr), x = .int .i64 i ∧ y = .int .i64 j ∧ 0 < i ∧ 0 < j ∧ Rot T m cur i j ∧ Wk2 w0 S g n cap wr cur) (fun x y _ => (intOf x).toNat + (intOf y).toNat)
  case atStart => exact ⟨i0, j0, cur0, by go_num, by go_num, hU, hV, HR.out, HS.out⟩
  case round =>
    clear HS HR
    obtain ⟨i, j, cur, rfl, rfl, hi0, hj0, hR, hW⟩ := hrel
    have HR := Lib.hid hR
    have HW := Lib.hid hW
    obtain ⟨bi, bj⟩ := hR.bounds
    rw [hW.len] at bj
    clear hR hW
    obtain ⟨x, hx⟩ : ∃ x : Nat, m - i = x := ⟨_, rfl⟩
    have hxI : (m : Int) - (i : Int) = (x : Int) := by omega
    by_cases hij : i = j
    · have hd := HR.out
      subst hij
      have hne : ¬ (i : Int) ≠ (i : Int) := by omega
      have c := fun W (hw : Wk2 w0 S g n cap W cur) => swr_wk hw x m i fv hl (by omega) bj (by omega)
      clear hi hj
      go_wp2_with (go_at_call 138; ((with_reducible refine (c _ HW.out).mono ?_); clear c; rintro e w2 ⟨rfl, hW2⟩))
      go_end0
      rw [← hx, hd.done] at hW2
      exact ⟨rfl, hW2⟩
    · have hne : ¬ (i : Int) = (j : Int) := by omega
      by_cases hlt : j < i
      · have hltI : (j : Int) < (i : Int) := by omega
        have c := fun W (hw : Wk2 w0 S g n cap W cur) => swr_wk hw x m j fv hl (by omega) bj (by omega)
        have HN := Lib.hid (HR.out.right hlt)
        rw [hx] at HN
        clear HR hi hj
        go_wp2_with (go_at_call 138; ((with_reducible refine (c _ HW.out).mono ?_); clear c; rintro e w2 ⟨rfl, hW2⟩))
        go_roundw
        case rel => exact ⟨i - j, j, _, by go_num, rfl, by omega, hj0, HN.out, hW2⟩
        case measure => simp [intOf]; omega
      · have hltI : ¬ (j : Int) < (i : Int) := by omega
        obtain ⟨y, hy⟩ : ∃ y : Nat, m + j - i = y := ⟨_, rfl⟩
        have hyI : (m : Int) + (j : Int) - (i : Int) = (y : Int) := by omega
        have c := fun W (hw : Wk2 w0 S g n cap W cur) => swr_wk hw x y i fv hl (by omega) (by omega) (by omega)
        have HN := Lib.hid (HR.out.left (by omega))
        rw [hx, hy] at HN
        clear HR hi hj
        go_wp2_with (go_at_call 138; ((with_reducible refine (c _ HW.out).mono ?_); clear c; rintro e w2 ⟨rfl, hW2⟩))
        go_roundw
        case rel => exact ⟨i, j - i, _, rfl, by go_num, hi0, by omega, HN.out, hW2⟩
        case measure => simp [intOf]; omega

set_option maxRecDepth 100000 in
set_option maxHeartbeats 6400000 in
theorem rev_any (g cap n : Nat) (l : List Pr) (S : Nat → Prop) (w : World) (h : PRow w S (.slice (some ⟨g, 0, none⟩) n cap) l) (hn : l.length = n) (hl : n ≤ 10000000) :
    Calls Try.prog 82 #[.slice (some ⟨g, 0, none⟩) n cap] w fun e w' => e = .returned (.tuple #[]) ∧ Wk2 w S g n cap w' l.reverse := by
  have HS := Lib.hid (Wk2.start h hn)
  have HN := Lib.hid hn
  clear h hn
  go_enter Try.func82, Try.ntmps82
  go_wp2_with (fail)
  go_loopw [2, 3] (fun x y wr => ∃ (i : Nat), x = .int .i64 i ∧ y = .int .i64 ((n : Int) - 1 - (i : Int)) ∧ 2 * i ≤ n ∧ Wk2 w S g n cap wr (rvR l i)) (fun x _ _ => n - (intOf x).toNat)
  case atStart => exact ⟨0, rfl, by go_num, by omega, HS.out⟩
  case round =>
    clear HS
    obtain ⟨i, rfl, rfl, hi, hW⟩ := hrel
    have HW := Lib.hid hW
    clear hW
    by_cases hlt : 2 * i + 1 < n
    · obtain ⟨y, hy⟩ : ∃ y : Nat, n - 1 - i = y := ⟨_, rfl⟩
      have hyI : (n : Int) - 1 - (i : Int) = (y : Int) := by omega
      rw [hyI]
      have hltI : (i : Int) < (y : Int) := by omega
      have hxy : ¬ i = y := by omega
      have hxl : (i : Int) < (n : Int) := by omega
      have hyl : (y : Int) < (n : Int) := by omega
      have hx0 : (0 : Int) ≤ (i : Int) := by omega
      have hy0 : (0 : Int) ≤ (y : Int) := by omega
      obtain ⟨p, hp⟩ : ∃ p, (rvR l i)[i]? = some p := ⟨_, List.getElem?_eq_getElem (by rw [rvR_len, HN.out]; omega)⟩
      obtain ⟨q, hq⟩ : ∃ q, (rvR l i)[y]? = some q := ⟨_, List.getElem?_eq_getElem (by rw [rvR_len, HN.out]; omega)⟩
      obtain ⟨p0, p1, p2, p3⟩ := HW.out.cell i p hp
      obtain ⟨q0, q1, q2, q3⟩ := HW.out.cell y q hq
      have HF := Lib.hid ((HW.out.swap i y p q hp hq).drew)
      obtain ⟨pk, pv⟩ := p
      obtain ⟨qk, qv⟩ := q
      dsimp only at p0 p1 q0 q1
      unfold swW at HF
      dsimp only at HF
      clear hp hq hyI
      go_wp2_with (fail)
      go_region
      go_wp2_with (fail)
      go_roundw
      case rel => exact ⟨i + 1, by go_num, by subst hy; go_num, by omega, by show Wk2 w S g n cap _ (swp (rvR l i) i (l.length - 1 - i)); rw [HN.out, hy]; exact HF.out⟩
      case measure => simp [intOf]; omega
    · have hltI : ¬ (i : Int) < (n : Int) - 1 - (i : Int) := by omega
      go_wp2_with (fail)
      go_end0
      refine ⟨rfl, ?_⟩
      have hW := HW.out
      have e := HN.out
      rw [rvR_all l i (by omega) (by omega)] at hW
      exact hW
end Go.Proofs.Ytijepfabkalcoaa

namespace Go.Proofs.Ytijepfabkalcoaa
open Go.RowKit Go.Sort
set_option linter.all false

/-- A search among sorted pairs for the first one of which P does not hold. -/
structure Sr (V : List Pr) (P : Pr → Prop) (i j : Nat) : Prop where
  lo : ∀ (t : Nat) (x : Pr), V[t]? = some x → t < i → P x
  hi : ∀ (t : Nat) (x : Pr), V[t]? = some x → j ≤ t → ¬ P x
theorem Sr.start (V : List Pr) (P : Pr → Prop) : Sr V P 0 V.length :=
  ⟨fun t x _ h => absurd h (by omega), fun t x h hl => absurd (List.getElem?_eq_some_iff.1 h).1 (by omega)⟩
theorem Sr.low {V : List Pr} {P : Pr → Prop} {i j k : Nat} {x : Pr} (h : Sr V P i j) (hV : Le V) (hP : ∀ x y : Pr, x.1 ≤ y.1 → P y → P x) (hx : V[k]? = some x) (hp : P x) : Sr V P (k + 1) j :=
  ⟨fun t y hy ht => hP y x (hV.at t k y x (by omega) hy hx) hp, h.hi⟩
theorem Sr.high {V : List Pr} {P : Pr → Prop} {i j k : Nat} {x : Pr} (h : Sr V P i j) (hV : Le V) (hP : ∀ x y : Pr, x.1 ≤ y.1 → P y → P x) (hx : V[k]? = some x) (hp : ¬ P x) : Sr V P i k :=
  ⟨h.lo, fun t y hy ht hpy => hp (hP x y (hV.at k t x y ht hx hy) hpy)⟩
theorem Sr.parts {V : List Pr} {P : Pr → Prop} {i : Nat} (h : Sr V P i i) : (∀ x ∈ V.take i, P x) ∧ ∀ x ∈ V.drop i, ¬ P x := by
  constructor
  · intro x hx
    obtain ⟨t, ht⟩ := List.getElem?_of_mem hx
    have := (List.getElem?_eq_some_iff.1 ht).1
    rw [List.length_take] at this
    rw [List.getElem?_take_of_lt (by omega)] at ht
    exact h.lo t x ht (by omega)
  · intro x hx
    obtain ⟨t, ht⟩ := List.getElem?_of_mem hx
    rw [List.getElem?_drop] at ht
    exact h.hi _ x ht (by omega)

/-- What a merge leaves. -/
def MrgIs (w0 : World) (S : Nat → Prop) (g n cap : Nat) (A U V B : List Pr) (w' : World) : Prop :=
  ∃ X, X.length = U.length + V.length ∧ Le X ∧ Stb (U ++ V) X ∧ Wk2 w0 S g n cap w' (A ++ X ++ B)

theorem at_left {A U V B : List Pr} {a h : Nat} (ha : A.length = a) (h1 : a ≤ h) (h2 : h < a + U.length) : (A ++ U ++ V ++ B)[h]? = U[h - a]? := by
  rw [List.append_assoc, List.append_assoc, List.getElem?_append_right (by omega), List.getElem?_append_left (by omega), ha]
theorem at_right {A U V B : List Pr} {m h : Nat} (hm : A.length + U.length = m) (h1 : m ≤ h) (h2 : h < m + V.length) : (A ++ U ++ V ++ B)[h]? = V[h - m]? := by
  rw [List.append_assoc, List.getElem?_append_right (by rw [List.length_append]; omega), List.getElem?_append_left (by rw [List.length_append]; omega), List.length_append, hm]

theorem sym1_end {A V B : List Pr} {u : Pr} {a k : Nat} (ha : A.length = a) (hV : Le V) (hk : k ≤ V.length) (h : Sr V (fun x => x.1 < u.1) k k) :
    ∃ X, X.length = 1 + V.length ∧ Le X ∧ Stb ([u] ++ V) X ∧ upR (A ++ [u] ++ V ++ B) a k = A ++ X ++ B := by
  obtain ⟨h1, h2⟩ := h.parts
  have e : V = V.take k ++ V.drop k := (List.take_append_drop k V).symm
  refine ⟨V.take k ++ u :: V.drop k, by simp; omega, first_le (by rw [← e]; exact hV) h1 (fun x hx => by have := h2 x hx; omega), ?_, ?_⟩
  · have := first_stb (V1 := V.take k) (V2 := V.drop k) h1
    rw [← e] at this
    exact this
  · have := upR_all A u (V.take k) (V.drop k ++ B) a k ha.symm (by rw [List.length_take]; omega)
    rw [← List.append_assoc, ← e] at this
    simp only [List.append_assoc, List.cons_append, List.nil_append] at this ⊢
    exact this
theorem sym2_end {A U B : List Pr} {v : Pr} {m k : Nat} (hm : A.length + U.length = m) (hU : Le U) (hk : k ≤ U.length) (h : Sr U (fun x => x.1 ≤ v.1) k k) :
    ∃ X, X.length = U.length + 1 ∧ Le X ∧ Stb (U ++ [v]) X ∧ dnR (A ++ U ++ [v] ++ B) m (U.length - k) = A ++ X ++ B := by
  obtain ⟨h1, h2⟩ := h.parts
  have e : U = U.take k ++ U.drop k := (List.take_append_drop k U).symm
  refine ⟨U.take k ++ v :: U.drop k, by simp; omega, ins_le (by rw [← e]; exact hU) h1 (fun x hx => by have := h2 x hx; omega), ?_, ?_⟩
  · have := ins_stb (X1 := U.take k) (X2 := U.drop k) (y := v) (fun x hx => by have := h2 x hx; omega)
    rw [← e] at this
    exact this
  · have := dnR_some A (U.take k) (U.drop k) v B m (U.length - k) (by rw [List.length_take, List.length_drop]; omega) (by rw [List.length_drop])
    rw [← e] at this
    simp only [List.append_assoc, List.cons_append, List.nil_append] at this ⊢
    exact this

set_option maxRecDepth 100000 in
set_option maxHeartbeats 6400000 in
theorem sym1_any (g cap n a m b : Nat) (A V B : List Pr) (u : Pr) (S : Nat → Prop) (w w0 : World) (h : Wk2 w0 S g n cap w (A ++ [u] ++ V ++ B)) (hl : n ≤ 10000000) (ha : A.length = a) (hm : a + 1 = m) (hb : m + V.length = b) (hV : Le V) :
    Calls Try.prog 115 #[.slice (some ⟨g, 0, none⟩) n cap, .int .i64 a, .int .i64 m, .int .i64 b, .func (.func 84) #[] #[]] w fun e w' => e = .returned (.tuple #[]) ∧ MrgIs w0 S g n cap A [u] V B w' := by
  have HS := Lib.hid h
  have hbn : b ≤ n := by have := h.len; simp only [List.length_append, List.length_singleton] at this; omega
  have HE : Hid (∀ k, k ≤ V.length → Sr V (fun x => x.1 < u.1) k k → ∃ X, X.length = 1 + V.length ∧ Le X ∧ Stb ([u] ++ V) X ∧ upR (A ++ [u] ++ V ++ B) a k = A ++ X ++ B) := Lib.hid (fun k hk hs => sym1_end ha hV hk hs)
  have HU : Hid ((A ++ [u] ++ V ++ B)[a]? = some u) := Lib.hid (by rw [at_left ha (Nat.le_refl _) (by simp)]; simp)
  have HR : Hid (∀ h, m ≤ h → h < b → (A ++ [u] ++ V ++ B)[h]? = V[h - m]?) := Lib.hid (fun h h1 h2 => at_right (by simp; omega) h1 (by omega))
  have HV := Lib.hid hV
  have hma : (m : Int) - (a : Int) = 1 := by omega
  have mixed : Try.prog.follows .mixedOrders = true := by kernel_rfl
  clear h ha hV
  unfold MrgIs
  generalize A ++ [u] ++ V ++ B = cur at HS HE HU HR
  generalize hvl : V.length = vl at *
  have HVL := Lib.hid hvl
  clear hvl
  go_enter Try.func115, Try.ntmps115
  go_wp2_with (fail)
  go_loopw [10, 11] (fun x y wr => ∃ (i j : Nat), x = .int .i64 i ∧ y = .int .i64 j ∧ m ≤ i ∧ i ≤ j ∧ j ≤ b ∧ Sr V (fun x => x.1 < u.1) (i - m) (j - m) ∧ Wk2 w0 S g n cap wr cur) (fun x y _ => (intOf y).toNat - (intOf x).toNat)
  case atStart => exact ⟨m, b, rfl, rfl, Nat.le_refl _, by omega, Nat.le_refl _, by rw [Nat.sub_self, show b - m = V.length by rw [HVL.out]; omega]; exact Sr.start V _, HS.out⟩
  case round =>
    clear HS
    obtain ⟨i, j, rfl, rfl, hmi, hij0, hjb, hSr, hW⟩ := hrel
    have HSr := Lib.hid hSr
    have HW := Lib.hid hW
    clear hSr hW
    by_cases hij : i < j
    · obtain ⟨h, hh⟩ : ∃ h : Nat, (i + j) / 2 = h := ⟨_, rfl⟩
      have hhI : ((i : Int) + (j : Int)) / 2 = (h : Int) := by omega
      have h1 : i ≤ h := by omega
      have h2 : h < j := by omega
      have hij' : (i : Int) < (j : Int) := by omega
      have hh0 : (0 : Int) ≤ (h : Int) := by omega
      have hhl : (h : Int) < (n : Int) := by omega
      have ha0 : (0 : Int) ≤ (a : Int) := by omega
      have hal : (a : Int) < (n : Int) := by omega
      obtain ⟨p, hp⟩ : ∃ p, cur[h]? = some p := ⟨_, List.getElem?_eq_getElem (by rw [HW.out.len]; omega)⟩
      obtain ⟨g0, g1⟩ := HW.out.cellG h p hp
      obtain ⟨g2, g3⟩ := HW.out.cellG a u HU.out
      rw [HR.out h (by omega) (by omega)] at hp
      obtain ⟨pk, pv⟩ := p
      obtain ⟨uk, uv⟩ := u
      dsimp only at g0 g1 g2 g3
      have c := fun W => new1_any pk pv uk uv W
      by_cases hpq : pk < uk
      · rw [cmpI_neg hpq] at c
        have HN := Lib.hid (HSr.out.low HV.out (fun x y h1 h2 => Int.lt_of_le_of_lt h1 h2) hp hpq)
        clear hp hpq HSr
        go_wp2_with (fail)
        go_quiet_grown (first | (go_at_call 84; exact Calls.grown_of (c _)))
        have HW2 := Lib.hid (HW.out.grown nq osq)
        clear g0 g1 g2 g3 HW
        generalize grow (wr.drewN nq) osq = w2 at HW2 ⊢
        clear nq osq
        go_wp2_with (fail)
        go_roundw
        case rel => exact ⟨h + 1, j, by go_num, rfl, by omega, by omega, hjb, by rw [show h + 1 - m = h - m + 1 by omega]; exact HN.out, HW2.out⟩
        case measure => simp [intOf]; omega
      · obtain ⟨z, hz, hzn⟩ := cmpI_nneg hpq
        rw [hz] at c
        have HN := Lib.hid (HSr.out.high HV.out (fun x y h1 h2 => Int.lt_of_le_of_lt h1 h2) hp hpq)
        clear hp hpq hz HSr
        go_wp2_with (fail)
        go_quiet_grown (first | (go_at_call 84; exact Calls.grown_of (c _)))
        have HW2 := Lib.hid (HW.out.grown nq osq)
        clear g0 g1 g2 g3 HW
        generalize grow (wr.drewN nq) osq = w2 at HW2 ⊢
        clear nq osq
        go_wp2_with (fail)
        go_roundw
        case rel => exact ⟨i, h, rfl, by go_num, hmi, by omega, by omega, HN.out, HW2.out⟩
        case measure => simp [intOf]; omega
    · obtain rfl : i = j := by omega
      have hij' : ¬ (i : Int) < (i : Int) := by omega
      have HE2 := Lib.hid (HE.out (i - m) (by omega) HSr.out)
      have HL : Hid (cur.length = n) := Lib.hid HW.out.len
      clear HE HSr HR HU
      go_wp2_with (fail)
      go_loopw [13] (fun x wr2 => ∃ c : Nat, x = .int .i64 ((a : Int) + (c : Int)) ∧ c ≤ i - m ∧ Wk2 w0 S g n cap wr2 (upR cur a c)) (fun x _ => n - (intOf x).toNat)
      case atStart => exact ⟨0, by go_num, Nat.zero_le _, HW.out⟩
      case round =>
        clear HW
        obtain ⟨c, rfl, hci, hW⟩ := hrel
        have HW := Lib.hid hW
        clear hW
        by_cases hlt : c < i - m
        · obtain ⟨x, hx⟩ : ∃ x : Nat, a + c = x := ⟨_, rfl⟩
          have hxI : (a : Int) + (c : Int) = (x : Int) := by omega
          rw [hxI]
          have hltI : (x : Int) < (i : Int) - 1 := by omega
          have e1 : ((x : Int) + 1).toNat = x + 1 := by omega
          have p1 : (0 : Int) ≤ (x : Int) + 1 := by omega
          have b1 : (x : Int) + 1 < (n : Int) := by omega
          have b2 : (x : Int) < (n : Int) := by omega
          have r2 : IntKind.i64.wrap ((x : Int) + 1) = (x : Int) + 1 := by rw [IntKind.wrap_i64]; omega
          have hxy : ¬ x = x + 1 := by omega
          obtain ⟨p, hp⟩ : ∃ p, (upR cur a c)[x]? = some p := ⟨_, List.getElem?_eq_getElem (by rw [upR_len, HL.out]; omega)⟩
          obtain ⟨q, hq⟩ : ∃ q, (upR cur a c)[x + 1]? = some q := ⟨_, List.getElem?_eq_getElem (by rw [upR_len, HL.out]; omega)⟩
          obtain ⟨p0, p1', p2, p3⟩ := HW.out.cell x p hp
          obtain ⟨q0, q1, q2, q3⟩ := HW.out.cell (x + 1) q hq
          have HF := Lib.hid ((HW.out.swap x (x + 1) p q hp hq).drew)
          obtain ⟨pk, pv⟩ := p
          obtain ⟨qk, qv⟩ := q
          dsimp only at p0 p1' q0 q1
          unfold swW at HF
          dsimp only at HF
          clear hp hq hxI
          go_wp2_with (fail)
          go_region
          go_wp2_with (fail)
          go_roundw
          case rel => exact ⟨c + 1, by subst hx; go_num, by omega, by subst hx; exact HF.out⟩
          case measure => simp [intOf]; omega
        · have hltI : ¬ (a : Int) + (c : Int) < (i : Int) - 1 := by omega
          obtain rfl : c = i - m := by omega
          go_wp2_with (fail)
          refine bodyPost_ret (results_none rfl _ _ _) rfl ?_
          obtain ⟨X, e1, e2, e3, e4⟩ := HE2.out
          have hW := HW.out
          rw [e4] at hW
          exact ⟨rfl, X, by simpa [HVL.out] using e1, e2, e3, by simpa only [List.append_assoc] using hW⟩

set_option maxRecDepth 100000 in
set_option maxHeartbeats 6400000 in
theorem sym2_any (g cap n a m b : Nat) (A U B : List Pr) (v : Pr) (S : Nat → Prop) (w w0 : World) (h : Wk2 w0 S g n cap w (A ++ U ++ [v] ++ B)) (hl : n ≤ 10000000) (ha : A.length = a) (hm : a + U.length = m) (hb : m + 1 = b) (hU : Le U) (hU1 : ¬ U.length = 1) :
    Calls Try.prog 115 #[.slice (some ⟨g, 0, none⟩) n cap, .int .i64 a, .int .i64 m, .int .i64 b, .func (.func 84) #[] #[]] w fun e w' => e = .returned (.tuple #[]) ∧ MrgIs w0 S g n cap A U [v] B w' := by
  have HS := Lib.hid h
  have hbn : b ≤ n := by have := h.len; simp only [List.length_append, List.length_singleton] at this; omega
  have HE : Hid (∀ k, k ≤ U.length → Sr U (fun x => x.1 ≤ v.1) k k → ∃ X, X.length = U.length + 1 ∧ Le X ∧ Stb (U ++ [v]) X ∧ dnR (A ++ U ++ [v] ++ B) m (U.length - k) = A ++ X ++ B) := Lib.hid (fun k hk hs => sym2_end (by omega) hU hk hs)
  have HV : Hid ((A ++ U ++ [v] ++ B)[m]? = some v) := Lib.hid (by rw [at_right (V := [v]) (by omega) (Nat.le_refl _) (by simp)]; simp)
  have HR : Hid (∀ h, a ≤ h → h < m → (A ++ U ++ [v] ++ B)[h]? = U[h - a]?) := Lib.hid (fun h h1 h2 => at_left ha h1 (by omega))
  have HU := Lib.hid hU
  have hmab : ((m : Int) - (a : Int) == 1) = false := by
    have : ¬ (m : Int) - (a : Int) = 1 := by omega
    simp [this]
  have hbm : (b : Int) - (m : Int) = 1 := by omega
  have mixed : Try.prog.follows .mixedOrders = true := by kernel_rfl
  clear h ha hU hU1
  unfold MrgIs
  generalize A ++ U ++ [v] ++ B = cur at HS HE HV HR
  generalize hul : U.length = ul at *
  have HUL := Lib.hid hul
  clear hul
  go_enter Try.func115, Try.ntmps115
  go_wp2_with (fail)
  go_loopw [14, 15] (fun x y wr => ∃ (i j : Nat), x = .int .i64 i ∧ y = .int .i64 j ∧ a ≤ i ∧ i ≤ j ∧ j ≤ m ∧ Sr U (fun x => x.1 ≤ v.1) (i - a) (j - a) ∧ Wk2 w0 S g n cap wr cur) (fun x y _ => (intOf y).toNat - (intOf x).toNat)
  case atStart => exact ⟨a, m, rfl, rfl, Nat.le_refl _, by omega, Nat.le_refl _, by rw [Nat.sub_self, show m - a = U.length by rw [HUL.out]; omega]; exact Sr.start U _, HS.out⟩
  case round =>
    clear HS
    obtain ⟨i, j, rfl, rfl, hmi, hij0, hjb, hSr, hW⟩ := hrel
    have HSr := Lib.hid hSr
    have HW := Lib.hid hW
    clear hSr hW
    by_cases hij : i < j
    · obtain ⟨h, hh⟩ : ∃ h : Nat, (i + j) / 2 = h := ⟨_, rfl⟩
      have hhI : ((i : Int) + (j : Int)) / 2 = (h : Int) := by omega
      have h1 : i ≤ h := by omega
      have h2 : h < j := by omega
      have hij' : (i : Int) < (j : Int) := by omega
      have hh0 : (0 : Int) ≤ (h : Int) := by omega
      have hhl : (h : Int) < (n : Int) := by omega
      have hm0 : (0 : Int) ≤ (m : Int) := by omega
      have hml : (m : Int) < (n : Int) := by omega
      obtain ⟨p, hp⟩ : ∃ p, cur[h]? = some p := ⟨_, List.getElem?_eq_getElem (by rw [HW.out.len]; omega)⟩
      obtain ⟨g0, g1⟩ := HW.out.cellG h p hp
      obtain ⟨g2, g3⟩ := HW.out.cellG m v HV.out
      rw [HR.out h (by omega) (by omega)] at hp
      obtain ⟨pk, pv⟩ := p
      obtain ⟨uk, uv⟩ := v
      dsimp only at g0 g1 g2 g3
      have c := fun W => new1_any uk uv pk pv W
      by_cases hpq : uk < pk
      · obtain ⟨z, hz, hzn⟩ : ∃ z, cmpI uk pk = z ∧ z < 0 := ⟨_, cmpI_neg hpq, by decide⟩
        rw [hz] at c
        have hzd : decide (z < 0) = true := decide_eq_true hzn
        have hzb : (!decide (z < 0)) = false := by rw [hzd]; rfl
        clear hz
        have HN := Lib.hid (HSr.out.high HU.out (fun x y h1 h2 => Int.le_trans h1 h2) hp (by dsimp only; omega))
        clear hp hpq HSr
        go_wp2_with (fail)
        go_quiet_grown (first | (go_at_call 84; exact Calls.grown_of (c _)))
        have HW2 := Lib.hid (HW.out.grown nq osq)
        clear g0 g1 g2 g3 HW
        generalize grow (wr.drewN nq) osq = w2 at HW2 ⊢
        clear nq osq
        go_wp2_with (fail)
        go_roundw
        case rel => exact ⟨i, h, rfl, by go_num, hmi, by omega, by omega, HN.out, HW2.out⟩
        case measure => simp [intOf]; omega
      · obtain ⟨z, hz, hzn⟩ := cmpI_nneg hpq
        rw [hz] at c
        have hzd : decide (z < 0) = false := decide_eq_false hzn
        have hzb : (!decide (z < 0)) = true := by rw [hzd]; rfl
        have HN := Lib.hid (HSr.out.low HU.out (fun x y h1 h2 => Int.le_trans h1 h2) hp (by dsimp only; omega))
        clear hp hpq hz HSr
        go_wp2_with (fail)
        go_quiet_grown (first | (go_at_call 84; exact Calls.grown_of (c _)))
        have HW2 := Lib.hid (HW.out.grown nq osq)
        clear g0 g1 g2 g3 HW
        generalize grow (wr.drewN nq) osq = w2 at HW2 ⊢
        clear nq osq
        go_wp2_with (fail)
        go_roundw
        case rel => exact ⟨h + 1, j, by go_num, rfl, by omega, by omega, hjb, by rw [show h + 1 - a = h - a + 1 by omega]; exact HN.out, HW2.out⟩
        case measure => simp [intOf]; omega
    · obtain rfl : i = j := by omega
      have hij' : ¬ (i : Int) < (i : Int) := by omega
      have HE2 := Lib.hid (HE.out (i - a) (by omega) HSr.out)
      have HL : Hid (cur.length = n) := Lib.hid HW.out.len
      clear HE HSr HR HV
      go_wp2_with (fail)
      go_loopw [17] (fun x wr2 => ∃ c : Nat, x = .int .i64 ((m : Int) - (c : Int)) ∧ c ≤ m - i ∧ Wk2 w0 S g n cap wr2 (dnR cur m c)) (fun x _ => (intOf x).toNat)
      case atStart => exact ⟨0, by go_num, Nat.zero_le _, HW.out⟩
      case round =>
        clear HW
        obtain ⟨c, rfl, hci, hW⟩ := hrel
        have HW := Lib.hid hW
        clear hW
        by_cases hlt : c < m - i
        · obtain ⟨x, hx⟩ : ∃ x : Nat, m - c - 1 = x := ⟨_, rfl⟩
          have hx2 : m - c = x + 1 := by omega
          have hxI : (m : Int) - (c : Int) = (x : Int) + 1 := by omega
          rw [hxI]
          have hltI : (i : Int) < (x : Int) + 1 := by omega
          have e1 : ((x : Int) + 1).toNat = x + 1 := by omega
          have p1 : (0 : Int) ≤ (x : Int) + 1 := by omega
          have b1 : (x : Int) + 1 < (n : Int) := by omega
          have b2 : (x : Int) < (n : Int) := by omega
          have r2 : IntKind.i64.wrap (x : Int) = (x : Int) := by rw [IntKind.wrap_i64]; omega
          have hxy : ¬ x + 1 = x := by omega
          obtain ⟨p, hp⟩ : ∃ p, (dnR cur m c)[x + 1]? = some p := ⟨_, List.getElem?_eq_getElem (by rw [dnR_len, HL.out]; omega)⟩
          obtain ⟨q, hq⟩ : ∃ q, (dnR cur m c)[x]? = some q := ⟨_, List.getElem?_eq_getElem (by rw [dnR_len, HL.out]; omega)⟩
          obtain ⟨p0, p1', p2, p3⟩ := HW.out.cell (x + 1) p hp
          obtain ⟨q0, q1, q2, q3⟩ := HW.out.cell x q hq
          have HF := Lib.hid ((HW.out.swap (x + 1) x p q hp hq).drew)
          obtain ⟨pk, pv⟩ := p
          obtain ⟨qk, qv⟩ := q
          dsimp only at p0 p1' q0 q1
          unfold swW at HF
          dsimp only at HF
          clear hp hq hxI
          go_wp2_with (fail)
          go_region
          go_wp2_with (fail)
          go_roundw
          case rel => exact ⟨c + 1, by congr 1; omega, by omega, by show Wk2 w0 S g n cap _ (swp (dnR cur m c) (m - c) (m - c - 1)); rw [hx, hx2]; exact HF.out⟩
          case measure => simp [intOf]
        · have hltI : ¬ (i : Int) < (m : Int) - (c : Int) := by omega
          obtain rfl : c = m - i := by omega
          go_wp2_with (fail)
          refine bodyPost_ret (results_none rfl _ _ _) rfl ?_
          obtain ⟨X, e1, e2, e3, e4⟩ := HE2.out
          have hW := HW.out
          rw [show m - i = ul - (i - a) by omega, e4] at hW
          exact ⟨rfl, X, by simpa [HUL.out] using e1, e2, e3, by simpa only [List.append_assoc] using hW⟩
end Go.Proofs.Ytijepfabkalcoaa
