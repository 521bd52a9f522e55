/- What the laws of stage 16 say of pairs: put one by one, put and cut again. No condition: lemmas. -/
import Derived.Test.YtooengicfjcchaaMdW
import Derived.Test.YtooengicfjcchaaLfS
namespace Go.Proofs.Ytooengicfjcchaa
open Go.RowKit Go.Sort
set_option linter.all false

theorem putsL_take {z : List Pr} {i : Nat} {q : Pr} (hq : z[i]? = some q) : putsL (z.take (i + 1)) = withL (putsL (z.take i)) q.1 q.2 := by
  have : z.take (i + 1) = z.take i ++ [q] := by rw [List.take_add_one, hq]; rfl
  rw [this, putsL_snoc]
theorem putsL_tl (z : List Pr) (i : Nat) : (putsL (z.take i)).length ≤ z.length := by
  have h := putsL_len (z.take i)
  rw [List.length_take] at h
  omega
theorem cut_with {L : List Pr} (h : Srt L) (k v : Int) : cutL (withL L k v) k = cutL L k :=
  srt_ext (cutL_srt (withL_is_srt L k v h) k) (cutL_srt h k) (fun z => by
    rw [cutL_mem, cutL_mem, withL_in h]
    constructor
    · rintro ⟨rfl | ⟨h1, h2⟩, h3⟩
      · exact absurd rfl h3
      · exact ⟨h1, h3⟩
    · rintro ⟨h1, h2⟩
      exact ⟨.inr ⟨h1, h2⟩, h2⟩)
theorem cuts_P {L : List Pr} (h : Srt L) (k v : Int) : runP L [⟨1, k, 0, v⟩, ⟨3, k, 0, 0⟩, ⟨3, k, 0, 0⟩] = cutL L k := by
  show doP (doP (doP L 1 k v) 3 k 0) 3 k 0 = _
  have h1 : Srt (withL L k v) := withL_is_srt L k v h
  rw [doP_put h (by decide) k v rfl, doP_cut h1 (by decide) k 0 rfl, doP_cut (cutL_srt h1 k) (by decide) k 0 rfl, cutL_twice, cut_with h]
theorem cuts_A {L : List Pr} (h : Srt L) (k v : Int) : ∃ D, runA L [⟨1, k, 0, v⟩, ⟨3, k, 0, 0⟩, ⟨3, k, 0, 0⟩] = [D, ⟨0, true, k, v, 0, []⟩, ⟨0, false, 0, 0, 0, []⟩] := by
  refine ⟨doA L 1 k 0, ?_⟩
  have h1 : Srt (withL L k v) := withL_is_srt L k v h
  show [doA L 1 k 0, doA (doP L 1 k v) 3 k 0, doA (doP (doP L 1 k v) 3 k 0) 3 k 0] = _
  rw [doP_put h (by decide) k v rfl, doP_cut h1 (by decide) k 0 rfl, doA_had h1 (by decide) k 0 (by decide), doA_had (cutL_srt h1 k) (by decide) k 0 (by decide)]
  unfold hadD
  rw [hadL_mem h1 (withL_has L h k v), hadL_not (fun z hz => (cutL_mem.1 hz).2)]
/-- The row that a law makes one by one beside a map in block b: it lies behind it. -/
theorem PRow.next {w w' : World} {b : Nat} {v : Value} {l : List Pr} (h : PRow w' (fun j => j < w.heap.size) v l) (hb : b < w.heap.size) : PRow w' (fun j => j ≤ b) v l := h.sub (fun k _ hk => Nat.lt_of_le_of_lt hk hb)
theorem PRow.keep1 {w w' : World} {b : Nat} {v : Value} {l : List Pr} (h : PRow w (fun j => j ≤ b) v l) (o : Only (fun k => k = b) w w') : PRow w' (fun j => j ≤ b) v l :=
  ⟨o.row h.row (fun k hk e => h.av k hk (Nat.le_of_eq e)), h.av⟩
end Go.Proofs.Ytooengicfjcchaa
