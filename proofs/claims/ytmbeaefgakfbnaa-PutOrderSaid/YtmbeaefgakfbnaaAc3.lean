/- Contracts of the arena's steps: step, Load, Swap, Once. -/
import Derived.Test.YtmbeaefgakfbnaaAc2
namespace Go.Proofs.Ytmbeaefgakfbnaa
open Go.RowKit
set_option linter.unusedVariables false

/-- What the cell of a number holds. -/
def cellL (l : List It) (id : Int) : Option Int := match itemAt l id with
  | none => none
  | some x => if x.1 = 0 then x.2.head? else none
def setL (l : List It) (id v : Int) : List It := l.set (id - 1).toNat (0, [v])
def stepped (c : Option Int) (st : Int) : Int := match c with
  | none => st
  | some _ => wrap64 (st + 1)

theorem cellL_some {l : List It} {id u : Int} (hl : ∀ x ∈ l, ItOk x) (h : cellL l id = some u) : ∃ i : Nat, id = (i : Int) + 1 ∧ l[i]? = some (0, [u]) ∧ i < l.length := by
  unfold cellL at h
  cases hx : itemAt l id with
  | none => rw [hx] at h; cases h
  | some x =>
    rw [hx] at h
    obtain ⟨i, rfl, h1, h2⟩ := itemAt_some hx
    refine ⟨i, rfl, ?_, h2⟩
    by_cases h0 : x.1 = 0
    · simp only [h0, if_true] at h
      obtain ⟨v, hv⟩ := (hl x (List.mem_of_getElem? h1)).2.2 h0
      rw [h1]
      obtain ⟨x1, x2⟩ := x
      simp_all
    · simp only [h0, if_false] at h; cases h

/-- What a step on item i leaves. -/
def Stepped (w : World) (p : Nat) (sv vv : Value) (room st : Int) (l : List It) (i : Nat) (e : Ending) (w' : World) : Prop :=
  ∃ g cap, vv = .slice (some ⟨g, 0, none⟩) (flat l).length cap ∧ e = .returned (.pointer (some ⟨g, fst l i, none⟩)) ∧ ArenaIs w' p sv vv room (wrap64 (st + 1)) l ∧ Only (fun k => k = p) w w'

/-- What a call leaves that steps on the arena. -/
def Moved (w : World) (p : Nat) (F : Nat → Prop) (room st : Int) (l : List It) (w' : World) : Prop :=
  Arena w' p F room st l ∧ Only F w w'

theorem Moved.ofBelow {w w' : World} {p : Nat} {F : Nat → Prop} {room st : Int} {l : List It} (h : Arena w p F room st l) (hb : Below w.heap.size w w') : Moved w p F room st l w' :=
  ⟨h.below hb, Only.ofBelow hb⟩

/-- What a Swap leaves of the items. -/
def swapL (l : List It) (id old now : Int) : List It := if cellL l id = some old then setL l id now else l
def onceL (l : List It) (id v : Int) : List It := if cellL l id = some 0 ∧ v ≠ 0 then setL l id v else l

end Go.Proofs.Ytmbeaefgakfbnaa
