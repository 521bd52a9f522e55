/- The last value of a key; two maps side by side. No condition: lemmas. -/
import Derived.Test.YtooengicfjcchaaMdL
namespace Go.Proofs.Ytooengicfjcchaa
open Go.RowKit Go.Sort
set_option linter.all false

/-- The value that a key has behind these pairs. -/
def lv (v k : Int) (l : List Pr) : Int := l.foldl (fun acc q => if q.1 = k then q.2 else acc) v
theorem lv_snoc (v k : Int) (l : List Pr) (q : Pr) : lv v k (l ++ [q]) = if q.1 = k then q.2 else lv v k l := by unfold lv; rw [List.foldl_append]; rfl
theorem lv_find (pre : List Pr) (q : Pr) : ∀ rest : List Pr, (pre ++ q :: rest).reverse.find? (fun z => z.1 == q.1) = some (q.1, lv q.2 q.1 rest) := rev_ind (by
    rw [List.reverse_append]
    simp [lv]) (fun rest x ih => by
    have e : pre ++ q :: (rest ++ [x]) = (pre ++ q :: rest) ++ [x] := by simp
    rw [e, List.reverse_append, lv_snoc]
    show List.find? _ (x :: (pre ++ q :: rest).reverse) = _
    rw [List.find?_cons]
    by_cases h : x.1 = q.1
    · rw [if_pos h]
      have hb : (x.1 == q.1) = true := by simp [h]
      rw [hb]
      simp [← h]
    · rw [if_neg h]
      have hb : (x.1 == q.1) = false := by simp [h]
      rw [hb]
      exact ih)
theorem lv_had {z : List Pr} {i : Nat} {q : Pr} (hq : z[i]? = some q) : hadL (putsL z) q.1 = (true, q.1, lv q.2 q.1 (z.drop (i + 1))) := by
  have hi := (List.getElem?_eq_some_iff.1 hq).1
  have e : z = z.take i ++ q :: z.drop (i + 1) := by
    have h1 := List.take_append_drop i z
    have h2 := List.drop_eq_getElem_cons hi
    have h3 : z[i] = q := (List.getElem?_eq_some_iff.1 hq).2
    rw [h2, h3] at h1
    exact h1.symm
  have hf := putsL_find z q.1
  have hl := lv_find (z.take i) q (z.drop (i + 1))
  rw [← e] at hl
  rw [hl] at hf
  have hm := ((find_srt (putsL_srt z) q.1 _).1 hf).1
  exact hadL_mem (putsL_srt z) hm
theorem lv_next {l : List Pr} {j : Nat} {x : Pr} (v k : Int) (hx : l[j]? = some x) : lv v k (l.take (j + 1)) = if x.1 = k then x.2 else lv v k (l.take j) := by
  have : l.take (j + 1) = l.take j ++ [x] := by rw [List.take_add_one, hx]; rfl
  rw [this, lv_snoc]

/-- Two maps in boxes. -/
structure M2 (w : World) (b1 b2 : Nat) (L1 L2 : List Pr) (W : World) : Prop where
  m1 : MapAt W (fun j => j < w.heap.size ∨ j = b1 ∨ j = b2) b1 L1
  m2 : MapAt W (fun j => j < w.heap.size ∨ j = b1 ∨ j = b2) b2 L2
  bw : Below w.heap.size w W
  l1 : w.heap.size ≤ b1
  l2 : b1 < b2
section
variable {w W W' : World} {b1 b2 : Nat} {L1 L2 : List Pr}
theorem M2.below (h : M2 w b1 b2 L1 L2 W) (hb : Below W.heap.size W W') : M2 w b1 b2 L1 L2 W' := ⟨h.m1.below hb, h.m2.below hb, bel2 h.bw hb, h.l1, h.l2⟩
theorem M2.hS (h : M2 w b1 b2 L1 L2 W) : ∀ j, (j < w.heap.size ∨ j = b1 ∨ j = b2) → j < W.heap.size := fun j hj => by
  have h1 := h.m1.lt
  have h2 := h.m2.lt
  have h3 := h.l1
  rcases hj with hj | hj | hj <;> omega
theorem M2.new {w2 w3 : World} (h1 : MapAt w2 (fun j => j < w.heap.size ∨ j = b1) b1 L1) (hb1 : Below w.heap.size w w2) (h2 : MapAt w3 (fun j => j < w2.heap.size ∨ j = b2) b2 L2) (hb2 : Below w2.heap.size w2 w3) (l1 : w.heap.size ≤ b1) (l2 : w2.heap.size ≤ b2) : M2 w b1 b2 L1 L2 w3 := by
  have hl := h1.lt
  have hs := hb1.size
  refine ⟨(h1.sub (.inr (.inl rfl)) (fun k hk hs => ?_)).below hb2, h2.sub (.inr (.inr rfl)) (fun k hk hs => ?_), bel2 hb1 hb2, l1, by omega⟩
  · rcases hs with hs | hs | hs
    · exact .inl hs
    · exact .inr hs
    · omega
  · rcases hs with hs | hs | hs
    · exact .inl (by omega)
    · exact .inl (by omega)
    · exact .inr hs
/-- The second map does an operation. -/
theorem M2.do2 (h : M2 w b1 b2 L1 L2 W) (c k hi v : Int) (hl : L2.length ≤ 1000) :
    Calls Try.prog 14 #[.pointer (some ⟨b2, 0, none⟩), .agg #[.int .i64 c, .int .i64 k, .int .i64 hi, .int .i64 v]] W fun e w' => ∃ aa ca, e = .returned ((doA L2 c k hi).val aa ca) ∧ M2 w b1 b2 L1 (doP L2 c k v) w' ∧ PRow w' (fun j => j < W.heap.size) (.slice aa (doA L2 c k hi).ps.length ca) (doA L2 c k hi).ps ∧ Only (fun k => k = b2) W w' :=
  (mdo_any b2 _ L2 c k hi v W h.m2 h.hS (by omega)).mono (fun e w' hh => by
    obtain ⟨aa, ca, rfl, hM, hR, hO⟩ := hh
    have h1 := h.l1
    have h2 := h.l2
    exact ⟨aa, ca, rfl, ⟨h.m1.only hO (fun e => by omega) (fun k hk => .inr (.inr hk)), hM, h.bw.trans (hO.below (fun i hi => by omega) h.bw.size), h1, h2⟩, hR, hO⟩)
theorem M2.do1 (h : M2 w b1 b2 L1 L2 W) (c k hi v : Int) (hl : L1.length ≤ 1000) :
    Calls Try.prog 14 #[.pointer (some ⟨b1, 0, none⟩), .agg #[.int .i64 c, .int .i64 k, .int .i64 hi, .int .i64 v]] W fun e w' => ∃ aa ca, e = .returned ((doA L1 c k hi).val aa ca) ∧ M2 w b1 b2 (doP L1 c k v) L2 w' ∧ PRow w' (fun j => j < W.heap.size) (.slice aa (doA L1 c k hi).ps.length ca) (doA L1 c k hi).ps ∧ Only (fun k => k = b1) W w' :=
  (mdo_any b1 _ L1 c k hi v W h.m1 h.hS (by omega)).mono (fun e w' hh => by
    obtain ⟨aa, ca, rfl, hM, hR, hO⟩ := hh
    have h1 := h.l1
    have h2 := h.l2
    exact ⟨aa, ca, rfl, ⟨hM, h.m2.only hO (fun e => by omega) (fun k hk => .inr (.inl hk)), h.bw.trans (hO.below (fun i hi => by omega) h.bw.size), h1, h2⟩, hR, hO⟩)
end
theorem do_put_is {z : List Pr} {i : Nat} {q : Pr} (hq : z[i]? = some q) : doP (putsL (z.take i)) 1 q.1 q.2 = putsL (z.take (i + 1)) := by
  rw [putsL_take hq, doP_put (putsL_srt _) (by decide) q.1 q.2 rfl]
theorem do_get_is {L : List Pr} (h : Srt L) (k v : Int) : doP L 4 k v = L := doP_read h (by decide) k v (by decide)
theorem do_got_is {z : List Pr} {i : Nat} {q : Pr} (hq : z[i]? = some q) : doA (putsL z) 4 q.1 0 = ⟨0, true, q.1, lv q.2 q.1 (z.drop (i + 1)), 0, []⟩ := by
  rw [doA_had (putsL_srt z) (by decide) q.1 0 (by decide)]
  unfold hadD
  rw [lv_had hq]
end Go.Proofs.Ytooengicfjcchaa
