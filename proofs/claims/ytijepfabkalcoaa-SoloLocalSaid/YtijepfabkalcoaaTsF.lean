/- osierref1.Plain, whatever the tree. No condition: a lemma. osierref1.CopyTree; a node appended onto a row of one's own. No condition: lemmas. Trees whose nodes lie at other places: what Plain tells is plain; its nodes turned round. No condition: lemmas. -/
import Derived.Test.YtijepfabkalcoaaTsC
namespace Go.Proofs.Ytijepfabkalcoaa
open Go.RowKit
set_option linter.all false

end Go.Proofs.Ytijepfabkalcoaa

namespace Go.Proofs.Ytijepfabkalcoaa
open Go.RowKit
set_option linter.all false

theorem idx_at {l : List Nat} (h : l.Nodup) {j x : Nat} (hx : l[j]? = some x) : l.idxOf x = 0 + j := by
  have hm : x ∈ l := List.mem_of_getElem? hx
  have h1 : l.idxOf x < l.length := List.idxOf_lt_length_of_mem hm
  have h2 : l[l.idxOf x]? = some x := by rw [List.getElem?_eq_getElem h1, List.getElem_idxOf h1]
  have := nodup_at h h2 hx
  omega
theorem fixn_p (f : Nat → Nat) (z : Nd) : (fixn f z).p = z.p := by unfold fixn; split <;> rfl
theorem small_of_lay {U : List Nd} {s : Sh} {t : Int} (h : Tr U s t) (hs : Small (lay U s 0)) : Small U :=
  ⟨by have := hs.1; rw [lay_len, h.all] at this; exact this, fun z hz => by
    obtain ⟨y, hy⟩ := List.getElem?_of_mem hz
    have hm := h.mem (List.getElem?_eq_some_iff.1 hy).1
    have hlm := lay_map (f := fun x => s.pre.idxOf x) (c := 0) h.hg (fun j x hx => idx_at h.nd hx)
    have hin : fixn (fun x => s.pre.idxOf x) z ∈ lay U s 0 := by
      rw [hlm]
      exact List.mem_map.2 ⟨y, hm, by rw [nd_of hy]⟩
    have := hs.2 _ hin
    rw [fixn_p] at this
    exact this⟩
end Go.Proofs.Ytijepfabkalcoaa

