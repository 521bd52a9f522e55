/- A number of a row of one's own is written. No condition: lemmas. -/
import Derived.Test.YtijepfabkalcoaaOrI
namespace Go.Proofs.Ytijepfabkalcoaa
open Go.RowKit Go.Deep
set_option linter.all false
set_option maxRecDepth 20000

/-- A number of a row of one's own is written. -/
theorem Nums.set {w : World} {S : Nat → Prop} {g n cap : Nat} {l : List Int} (h : Nums w S (.slice (some ⟨g, 0, none⟩) n cap) l) (hn : n = l.length) (i : Nat) (x : Int) :
    Nums (w.setCell ⟨g, i, none⟩ (.int .i64 x)) S (.slice (some ⟨g, 0, none⟩) n cap) (l.set i x) := by
  subst hn
  have h1 := h.row.stored i (.int .i64 x)
  refine ⟨?_, fun k hk => h.av k hk⟩
  rw [List.length_set, show cellsI (l.set i x) = (cellsI l).set i (.int .i64 x) by unfold cellsI; rw [List.map_set]]
  exact h1.1
theorem Nums.fr {w : World} {S : Nat → Prop} {g n cap : Nat} {l : List Int} (h : Nums w S (.slice (some ⟨g, 0, none⟩) n cap) l) (hl : 0 < l.length) : ∀ j, w.frozen? ⟨g, j, none⟩ = false := by
  obtain ⟨g', cap2, e, _, _, hf⟩ := row_at h.row hl
  simp only [Value.slice.injEq, Option.some.injEq, Addr.mk.injEq, and_true] at e
  obtain ⟨rfl, _, _⟩ := e
  exact hf
end Go.Proofs.Ytijepfabkalcoaa
