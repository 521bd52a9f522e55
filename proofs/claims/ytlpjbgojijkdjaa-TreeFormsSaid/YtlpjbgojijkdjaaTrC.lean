/- check.from: what hangs somewhere, and what it came to. No condition: lemmas. -/
import Derived.Test.YtlpjbgojijkdjaaTrN
import Derived.Deep.RegionHeld3
import Derived.Deep.CutRange
import Derived.Deep.CutBlock
import Derived.Deep.RegionLaw
import Derived.Deep.QuietTactic
import Derived.BigQuiet
namespace Go.Proofs.Ytlpjbgojijkdjaa
open Go.RowKit
set_option linter.all false

/-- A row of bools in a block of its own. -/
structure Bs (W : World) (g : Nat) (sn : List Bool) : Prop where
  lt : g < W.heap.size
  at_ : ∀ (j : Nat) (v : Bool), sn[j]? = some v → W.cell? ⟨g, j, none⟩ = some (.bool v)
  fr : ∀ j, W.frozen? ⟨g, j, none⟩ = false
theorem Bs.keep {W W' : World} {g : Nat} {sn : List Bool} (h : Bs W g sn) (hb : Below W.heap.size W W') : Bs W' g sn :=
  ⟨Nat.lt_of_lt_of_le h.lt hb.size, fun j v hj => kc hb (h.at_ j v hj), fun j => (hb.frozen (p := ⟨g, j, none⟩) h.lt).trans (h.fr j)⟩
theorem Bs.set {W : World} {g : Nat} {sn : List Bool} (h : Bs W g sn) (i : Nat) (hi : i < sn.length) (b : Bool) : Bs (W.setCell ⟨g, i, none⟩ (.bool b)) g (sn.set i b) := by
  refine ⟨by have := h.lt; simpa [World.setCell] using this, fun j v hj => ?_, fun j => by rw [World.frozen?_setCell]; exact h.fr j⟩
  rw [List.getElem?_set] at hj
  by_cases e : i = j
  · subst e
    rw [if_pos rfl, if_pos hi] at hj
    cases hj
    exact World.cell?_setCell_same _ _ _ (h.at_ i _ (List.getElem?_eq_getElem hi))
  · rw [if_neg e] at hj
    exact setO (h.at_ j v hj) (.inr e)
/-- What from reads: the check, the span; then the node, too. -/
def C6 (W : World) (q0 q1 : Nat) (a : Option Addr) (nl cap : Nat) (g sc : Nat) (x y : Int) (hl hh : Bool) : Prop :=
  W.cell? ⟨q0, 0, none⟩ = some (.slice a nl cap) ∧ W.cell? ⟨q0, 1, none⟩ = some (.slice (some ⟨g, 0, none⟩) nl sc) ∧
  W.cell? ⟨q1, 0, none⟩ = some (.int .i64 x) ∧ W.cell? ⟨q1, 1, none⟩ = some (.int .i64 y) ∧ W.cell? ⟨q1, 2, none⟩ = some (.bool hl) ∧ W.cell? ⟨q1, 3, none⟩ = some (.bool hh)
def C12 (W : World) (q0 q1 q2 : Nat) (a : Option Addr) (nl cap : Nat) (g sc : Nat) (x y : Int) (hl hh : Bool) (r : Bool) (k l b : Int) (pa : Option Addr) (pl pc : Nat) (s : Int) : Prop :=
  W.cell? ⟨q0, 0, none⟩ = some (.slice a nl cap) ∧ W.cell? ⟨q0, 1, none⟩ = some (.slice (some ⟨g, 0, none⟩) nl sc) ∧
  W.cell? ⟨q1, 0, none⟩ = some (.int .i64 x) ∧ W.cell? ⟨q1, 1, none⟩ = some (.int .i64 y) ∧ W.cell? ⟨q1, 2, none⟩ = some (.bool hl) ∧ W.cell? ⟨q1, 3, none⟩ = some (.bool hh) ∧
  W.cell? ⟨q2, 0, none⟩ = some (.bool r) ∧ W.cell? ⟨q2, 1, none⟩ = some (.int .i64 k) ∧ W.cell? ⟨q2, 2, none⟩ = some (.int .i64 l) ∧ W.cell? ⟨q2, 3, none⟩ = some (.int .i64 b) ∧
  W.cell? ⟨q2, 4, none⟩ = some (.slice pa pl pc) ∧ W.cell? ⟨q2, 5, none⟩ = some (.int .i64 s)
section
variable {W W' : World} {q0 q1 q2 : Nat} {a : Option Addr} {nl cap g sc : Nat} {x y : Int} {hl hh r : Bool} {k l b : Int} {pa : Option Addr} {pl pc : Nat} {s : Int}
theorem C12.keep (h : C12 W q0 q1 q2 a nl cap g sc x y hl hh r k l b pa pl pc s) (hb : Below W.heap.size W W') : C12 W' q0 q1 q2 a nl cap g sc x y hl hh r k l b pa pl pc s := by
  obtain ⟨c0, c1, c2, c3, c4, c5, c6, c7, c8, c9, c10, c11⟩ := h
  exact ⟨kc hb c0, kc hb c1, kc hb c2, kc hb c3, kc hb c4, kc hb c5, kc hb c6, kc hb c7, kc hb c8, kc hb c9, kc hb c10, kc hb c11⟩
theorem C12.only (h : C12 W q0 q1 q2 a nl cap g sc x y hl hh r k l b pa pl pc s) (ho : Only (fun j => j = g) W W') (n0 : ¬ q0 = g) (n1 : ¬ q1 = g) (n2 : ¬ q2 = g) : C12 W' q0 q1 q2 a nl cap g sc x y hl hh r k l b pa pl pc s := by
  obtain ⟨c0, c1, c2, c3, c4, c5, c6, c7, c8, c9, c10, c11⟩ := h
  exact ⟨ho.cell c0 n0, ho.cell c1 n0, ho.cell c2 n1, ho.cell c3 n1, ho.cell c4 n1, ho.cell c5 n1, ho.cell c6 n2, ho.cell c7 n2, ho.cell c8 n2, ho.cell c9 n2, ho.cell c10 n2, ho.cell c11 n2⟩
/-- The node is laid behind. -/
theorem C6.node (h : C6 W q0 q1 a nl cap g sc x y hl hh) : C12 (W.alloc (.cells #[.bool r, .int .i64 k, .int .i64 l, .int .i64 b, .slice pa pl pc, .int .i64 s] 51)) q0 q1 W.heap.size a nl cap g sc x y hl hh r k l b pa pl pc s := by
  obtain ⟨c0, c1, c2, c3, c4, c5⟩ := h
  refine ⟨kc (al1 _) c0, kc (al1 _) c1, kc (al1 _) c2, kc (al1 _) c3, kc (al1 _) c4, kc (al1 _) c5, ?_, ?_, ?_, ?_, ?_, ?_⟩ <;> simp
/-- As from makes it. -/
theorem c6_make {w : World} {i : Nat} (hg : g < w.heap.size) :
    C6 (((w.alloc (.cells #[.slice a nl cap, .slice (some ⟨g, 0, none⟩) nl sc] 68)).alloc (.cells #[.int .i64 x, .int .i64 y, .bool hl, .bool hh] 71)).setCell ⟨g, i, none⟩ (.bool true))
      w.heap.size (w.heap.size + 1) a nl cap g sc x y hl hh := by
  have n0 : g ≠ w.heap.size := by omega
  have n1 : g ≠ w.heap.size + 1 := by omega
  refine ⟨?_, ?_, ?_, ?_, ?_, ?_⟩
  · exact setO (by simp [go_sem]) (.inl n0)
  · exact setO (by simp [go_sem]) (.inl n0)
  · exact setO (by simp [go_sem]) (.inl n1)
  · exact setO (by simp [go_sem]) (.inl n1)
  · exact setO (by simp [go_sem]) (.inl n1)
  · exact setO (by simp [go_sem]) (.inl n1)
end
/-- What from tells. -/
def FrIs (g : Nat) (sn : List Bool) (P : Sh → Prop) (B : Bool) (W : World) (e : Ending) (w' : World) : Prop :=
  e = .returned (.bool B) ∧ ∃ sn', sn'.length = sn.length ∧ Bs w' g sn' ∧ Only (fun k => k = g) W w' ∧ ∀ s, P s → sn' = mark sn s.pre

set_option maxRecDepth 100000 in
set_option maxHeartbeats 6400000 in
theorem from_out {a : Option Addr} {cap nl : Nat} {t x y : Int} {hl hh : Bool} {sv : Value} {w : World} (h : ¬ (0 ≤ t ∧ t < (nl : Int))) (hnl : nl ≤ 1000000) :
    Calls Try.prog 40 #[.agg #[.slice a nl cap, sv], .int .i64 t, spv x y hl hh] w fun e w' => e = .returned (.bool false) ∧ Below w.heap.size w w' := by
  unfold spv
  have b2 : Below w.heap.size w ((w.alloc (.cells #[.slice a nl cap, sv] 68)).alloc (.cells #[.int .i64 x, .int .i64 y, .bool hl, .bool hh] 71)) := bel1 (al1 _) _
  by_cases h0 : t < 0
  · go_enter Try.func40, Try.ntmps40
    go_wp2_with (fail)
    go_ret
    exact ⟨rfl, b2⟩
  · have h1 : (nl : Int) ≤ t := by omega
    clear h
    go_enter Try.func40, Try.ntmps40
    go_wp2_with (fail)
    go_ret
    exact ⟨rfl, b2⟩
end Go.Proofs.Ytlpjbgojijkdjaa
