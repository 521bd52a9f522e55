/- What is older stays behind one block more and behind a call; how long the pairs of a parameter may be: the form's own reach. No condition: lemmas. -/
import Derived.Test.YtadfnbmogobopaaPrG
import Derived.SizedLaws
namespace Go.Proofs.Ytadfnbmogobopaa
open Go.RowKit Go.Deep Go.ChangeShapes Go.WideShapes
set_option linter.all false
set_option maxRecDepth 20000

theorem bel1 {w W : World} (h : Below w.heap.size w W) (o : Obj) : Below w.heap.size w (W.alloc o) := h.alloc h.size o
theorem bel2 {w W W' : World} (h : Below w.heap.size w W) (hb : Below W.heap.size W W') : Below w.heap.size w W' := h.trans (hb.mono h.size)
section
variable {H : Type} {enc : TypeId × Value → H} {w : World} {fuel : Nat} {x : DataW H × List MemPlace}
theorem bytesPair : Try.prog.bytesOf 32 = 16 := by kernel_rfl
theorem wt_pairs {a : Option Addr} {len cap : Nat} (h : DataW.trod enc Try.prog w 0 (fun _ => true) true fuel 22 [.slice a len cap] = some x) (hb : ∀ n ∈ x.1.weights Try.prog 22, n ≤ reachBytes) : len ≤ 8796093022208 := by
  rcases open_slice Try.underlying22 h with ⟨hcs, _⟩ | ⟨y, len', cap', m, n, D, Pl, hcs, _, hl, hm, hmm, hx, _⟩
  · simp at hcs
    omega
  · simp at hcs
    obtain ⟨_, rfl, rfl⟩ := hcs
    subst hx
    have h1 : (((List.range len).map D).length + ((List.range (m - len)).map fun j => D (len + j)).length) * Try.prog.bytesOf 32 ≤ reachBytes := hb _ (by
      simp only [DataW.weights, Try.underlying22]
      exact List.mem_cons_self)
    rw [bytesPair] at h1
    simp only [List.length_map, List.length_range] at h1
    unfold reachBytes at h1
    omega
end
end Go.Proofs.Ytadfnbmogobopaa
