/- What the laws of stage 15 share: the tree in its box, a place drawn out of so many. No condition: lemmas. -/
import Derived.Test.YteebceecohhegaaAeW
import Derived.Test.YteebceecohhegaaTsF
import Derived.Test.YteebceecohhegaaAdR
namespace Go.Proofs.Yteebceecohhegaa
open Go.RowKit
set_option linter.all false

theorem wrapU64 (a : Int) : IntKind.u64.wrap a = a % 18446744073709551616 := by first | rfl | simp [IntKind.wrap]
/-- int(uint64(a) % uint64(d)). -/
theorem umod (a d : Int) (h : 0 < d) (h2 : d ≤ 9223372036854775807) : ∃ m : Nat, (m : Int) < d ∧ wrap64 ((IntKind.u64.wrap a).tmod d) = m := by
  have h0 : 0 ≤ a % 18446744073709551616 := Int.emod_nonneg _ (by decide)
  have h1 := Int.emod_nonneg (a % 18446744073709551616) (show d ≠ 0 by omega)
  have h3 := Int.emod_lt_of_pos (a % 18446744073709551616) h
  refine ⟨((a % 18446744073709551616) % d).toNat, by omega, ?_⟩
  rw [wrapU64, Int.tmod_eq_emod_of_nonneg h0]
  unfold wrap64
  omega
/-- What holds all along. -/
structure Sp (w : World) (t : Int) (a : Option Addr) (cap : Nat) (N : List Nd) (W : World) : Prop where
  g : Bk W w.heap.size [.int .i64 t, .slice a N.length cap]
  b : Below w.heap.size w W
theorem Sp.keep {w : World} {t : Int} {a : Option Addr} {cap : Nat} {N : List Nd} {W W' : World} (h : Sp w t a cap N W) (hb : Below W.heap.size W W') : Sp w t a cap N W' := ⟨h.g.keep hb, bel2 h.b hb⟩
theorem Sp.new (w : World) (t : Int) (a : Option Addr) (cap : Nat) (N : List Nd) : Sp w t a cap N (w.alloc (.cells #[.int .i64 t, .slice a N.length cap] 24)) := ⟨Bk.new w #[.int .i64 t, .slice a N.length cap] 24, al1 _⟩
theorem Sp.conj {w : World} {t : Int} {a : Option Addr} {cap : Nat} {N : List Nd} {W : World} (h : Sp w t a cap N W) {p : Addr} {u : Value} (hc : W.cell? p = some u) :
    W.cell? ⟨w.heap.size, 0, none⟩ = some (.int .i64 t) ∧ W.cell? ⟨w.heap.size, 1, none⟩ = some (.slice a N.length cap) ∧ W.cell? p = some u ∧ Sp w t a cap N W := ⟨h.g.at_ 0 _ rfl, h.g.at_ 1 _ rfl, hc, h⟩
theorem ri_at {W : World} {ao : Option Addr} {c : Nat} {l : List Nat} (h : RI W ao c (preI l)) {j i : Nat} (hj : l[j]? = some i) : ∃ b o, ao = some ⟨b, o, none⟩ ∧ W.cell? ⟨b, o + j, none⟩ = some (.int .i64 (i : Int)) := h.2.2 j _ (preI_get hj)
/-- Which leaf is beside. -/
theorem beside_k {i n k : Nat} {s : Sh} (hnd : s.pre.Nodup) (hi : s.lvs[k]? = some i) (hl : isLf i s = false) (hn : nextA i s = some n) :
    s.lvs[k + 1]? = some n ∨ ∃ j, k = j + 1 ∧ s.lvs[j]? = some n := by
  obtain ⟨n', m, e, hh⟩ := nextA_is (List.mem_of_getElem? hi) hl
  rw [hn] at e
  cases e
  have nl := lvs_nodup hnd
  rcases hh with ⟨h1, h2⟩ | ⟨h1, h2⟩
  · have := nodup_at nl hi h1
    subst this
    exact .inl h2
  · have := nodup_at nl hi h2
    subst this
    exact .inr ⟨m, rfl, h1⟩
end Go.Proofs.Yteebceecohhegaa
