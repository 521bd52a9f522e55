/- How many pairs a tree holds in all; that few nodes with few pairs in all are small. No condition: lemmas. -/
import Derived.Test.YtijepfabkalcoaaTsC
import Derived.Test.YtijepfabkalcoaaTrM
namespace Go.Proofs.Ytijepfabkalcoaa
open Go.RowKit
set_option linter.all false

theorem psum_sumZ {N : List Nd} : ∀ n, n ≤ N.length → (psum N n : Int) = sumZ (fun i => ((nd N i).p.length : Int)) (List.range n) := by
  intro n
  induction n with
  | zero => intro _; simp [psum, sumZ]
  | succ n ih =>
    intro h
    rw [sumZ_range, ← ih (by omega), psum_succ (nd_get (by omega : n < N.length))]
    simp
/-- All pairs of a tree are as many as its nodes hold. -/
theorem tr_total {N : List Nd} {s : Sh} {t : Int} (h : Tr N s t) : (allP N s.lvs).length = psum N N.length := by
  have h2 := allP_sum h.hg
  rw [sumZ_perm _ h.perm, ← psum_sumZ _ (Nat.le_refl _)] at h2
  omega
theorem allP_mem_len {N : List Nd} {i : Nat} : ∀ {l : List Nat}, i ∈ l → (nd N i).p.length ≤ (allP N l).length := by
  intro l
  induction l with
  | nil => intro h; cases h
  | cons j l ih =>
    intro h
    rw [show j :: l = [j] ++ l from rfl, allP_app, allP_one, List.length_append]
    rcases List.mem_cons.1 h with rfl | h
    · omega
    · have := ih h; omega
theorem tr_small {N : List Nd} {s : Sh} {t : Int} (h : Tr N s t) (hl : (allP N s.lvs).length ≤ 1100000) (hn : N.length ≤ 2000) : Small N := by
  refine ⟨hn, fun n hn => ?_⟩
  obtain ⟨i, hi⟩ := List.getElem?_of_mem hn
  have hil := (List.getElem?_eq_some_iff.1 hi).1
  have hm := h.mem hil
  obtain ⟨m, lo, hh, hm', h1, h2⟩ := hangs_leaf h.hg i hm
  rw [hi] at hm'; cases hm'
  cases hr : n.r
  · have hlv := lf_mem h.hg hm hi hr
    have := allP_mem_len (N := N) hlv
    rw [nd_of hi] at this
    omega
  · rw [(h2 hr).1]; simp
theorem lgt_total {N : List Nd} {s : Sh} {t : Int} (h : Tr N s t) (hl : Lgt N) : (allP N s.lvs).length ≤ 2000 := by
  rw [tr_total h]; exact hl.2
end Go.Proofs.Ytijepfabkalcoaa

