/- What the laws of stage 16 say of pairs: put one by one, put and cut again. No condition: lemmas. -/
import Derived.Test.YtooengicfjcchaaMdW
import Derived.Test.YtooengicfjcchaaLfS
namespace Go.Proofs.Ytooengicfjcchaa
open Go.RowKit Go.Sort
set_option linter.all false

theorem putsL_take {z : List Pr} {i : Nat} {q : Pr} (hq : z[i]? = some q) : putsL (z.take (i + 1)) = withL (putsL (z.take i)) q.1 q.2 := by
  have : z.take (i + 1) = z.take i ++ [q] := by rw [List.take_add_one, hq]; rfl
  rw [this, putsL_snoc]
theorem putsL_tl (z : List Pr) (i : Nat) : (putsL (z.take i)).length ≤ z.length := by
  have h := putsL_len (z.take i)
  rw [List.length_take] at h
  omega
theorem cut_with {L : List Pr} (h : Srt L) (k v : Int) : cutL (withL L k v) k = cutL L k :=
  srt_ext (cutL_srt (withL_is_srt L k v h) k) (cutL_srt h k) (fun z => by
    rw [cutL_mem, cutL_mem, withL_in h]
    constructor
    · rintro ⟨rfl | ⟨h1, h2⟩, h3⟩
      · exact absurd rfl h3
      · exact ⟨h1, h3⟩
    · rintro ⟨h1, h2⟩
      exact ⟨.inr ⟨h1, h2⟩, h2⟩)
theorem cuts_P {L : List Pr} (h : Srt L) (k v : Int) : runP L [⟨1, k, 0, v⟩, ⟨3, k, 0, 0⟩, ⟨3, k, 0, 0⟩] = cutL L k := by
  show doP (doP (doP L 1 k v) 3 k 0) 3 k 0 = _
  have h1 : Srt (withL L k v) := withL_is_srt L k v h
  rw [doP_put h (by decide) k v rfl, doP_cut h1 (by decide) k 0 rfl, doP_cut (cutL_srt h1 k) (by decide) k 0 rfl, cutL_twice, cut_with h]
theorem cuts_A {L : List Pr} (h : Srt L) (k v : Int) : ∃ D, runA L [⟨1, k, 0, v⟩, ⟨3, k, 0, 0⟩, ⟨3, k, 0, 0⟩] = [D, ⟨0, true, k, v, 0, []⟩, ⟨0, false, 0, 0, 0, []⟩] := by
  refine ⟨doA L 1 k 0, ?_⟩
  have h1 : Srt (withL L k v) := withL_is_srt L k v h
  show [doA L 1 k 0, doA (doP L 1 k v) 3 k 0, doA (doP (doP L 1 k v) 3 k 0) 3 k 0] = _
  rw [doP_put h (by decide) k v rfl, doP_cut h1 (by decide) k 0 rfl, doA_had h1 (by decide) k 0 (by decide), doA_had (cutL_srt h1 k) (by decide) k 0 (by decide)]
  unfold hadD
  rw [hadL_mem h1 (withL_has L h k v), hadL_not (fun z hz => (cutL_mem.1 hz).2)]
/-- The row that a law makes one by one beside a map in block b: it lies behind it. -/
theorem PRow.next {w w' : World} {b : Nat} {v : Value} {l : List Pr} (h : PRow w' (fun j => j < w.heap.size) v l) (hb : b < w.heap.size) : PRow w' (fun j => j ≤ b) v l := h.sub (fun k _ hk => Nat.lt_of_le_of_lt hk hb)
theorem PRow.keep1 {w w' : World} {b : Nat} {v : Value} {l : List Pr} (h : PRow w (fun j => j ≤ b) v l) (o : Only (fun k => k = b) w w') : PRow w' (fun j => j ≤ b) v l :=
  ⟨o.row h.row (fun k hk e => h.av k hk (Nat.le_of_eq e)), h.av⟩
theorem putsL_in : ∀ (l : List Pr) (z : Pr), z ∈ putsL l → z ∈ l := rev_ind (fun z h => by cases h) (fun l x ih z h => by
  rw [putsL_snoc] at h
  rcases withL_mem (putsL_srt l) h with h | h
  · rw [h]; exact List.mem_append_right _ (List.mem_singleton.2 rfl)
  · exact List.mem_append_left _ (ih z h))
theorem rng_all {L : List Pr} (h : Rng L) : rngL L (-9223372036854775808) 9223372036854775807 = L := List.filter_eq_self.2 (fun z hz => by
  have := wf_range (h z hz).1
  simp; omega)
theorem reads_P {L : List Pr} (h : Srt L) (a b : Int) : runP L [⟨5, a, b, 0⟩, ⟨6, a, b, 0⟩, ⟨7, 0, 0, 0⟩, ⟨8, 0, 0, 0⟩] = L := by
  show doP (doP (doP (doP L 5 a 0) 6 a 0) 7 0 0) 8 0 0 = L
  rw [doP_read h (by decide) a 0 (by decide), doP_read h (by decide) a 0 (by decide), doP_read h (by decide) 0 0 (by decide), doP_read h (by decide) 0 0 (by decide)]
theorem reads_A {L : List Pr} (h : Srt L) (hr : Rng L) : runA L [⟨5, -9223372036854775808, 9223372036854775807, 0⟩, ⟨6, -9223372036854775808, 9223372036854775807, 0⟩, ⟨7, 0, 0, 0⟩, ⟨8, 0, 0, 0⟩] =
    [⟨0, false, 0, 0, L.length, L⟩, ⟨0, false, 0, 0, L.length, []⟩, atD L[0]?, atD L[L.length - 1]?] := by
  show [doA L 5 _ _, doA (doP L 5 _ 0) 6 _ _, doA (doP (doP L 5 _ 0) 6 _ 0) 7 0 0, doA (doP (doP (doP L 5 _ 0) 6 _ 0) 7 0 0) 8 0 0] = _
  rw [doP_read h (by decide) _ 0 (by decide), doP_read h (by decide) _ 0 (by decide), doP_read h (by decide) 0 0 (by decide), doA_rng h (by decide) _ _ rfl, doA_cnt h (by decide) _ _ rfl, doA_min h (by decide) 0 0 rfl, doA_max h (by decide) 0 0 rfl, rng_all hr]
theorem wfr1 (c : Int) (hc : (Lit.int .i64 c).wf = true) : OpD.wf ⟨c, -9223372036854775808, 9223372036854775807, 0⟩ := ⟨hc, (by decide : (Lit.int .i64 (-9223372036854775808)).wf = true), (by decide : (Lit.int .i64 9223372036854775807).wf = true), (by decide : (Lit.int .i64 0).wf = true)⟩
theorem wfr2 (c : Int) (hc : (Lit.int .i64 c).wf = true) : OpD.wf ⟨c, 0, 0, 0⟩ := ⟨hc, (by decide : (Lit.int .i64 0).wf = true), (by decide : (Lit.int .i64 0).wf = true), (by decide : (Lit.int .i64 0).wf = true)⟩
end Go.Proofs.Ytooengicfjcchaa
