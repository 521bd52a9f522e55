/-
  No cell of these rows narrows 'for every input' (looked for: loops, veiled, ifaces, maps, wideKeys, modest, calm, conditions, laid).
  DERIVED. THE GIVEN ROWS OF THIS SEAT. 5 by the template 'for every input the law returns true; each argument reads behind the call as it read before'; 0 by the template 'total and deterministic' (their statements: YtadfnbmogobopaaTotals.lean).
  GIVEN WITH THE SEED: the statements are not yours to turn. If you find one false, say at which input.
  Laid BY PROGRAM, IN A SANDBOX (cutbox-rows.mjs): the forced cells as the released guide's own fill.sh prints them over the translation d8f0ffaf7efb959b… (all of the seat's roots in one cut). By AI agents, Wed Nov 11 2026. No macro, syntax, notation, axiom, sorry.
-/
import Derived.Test.YtadfnbmogobopaaChecked
import GoSem.Claim
import GoSem.ClaimJoined
import GoSem.ClaimMapViews
import Derived.JoinedTies
import Derived.KernelRfl
namespace Go.Proofs.Ytadfnbmogobopaa
/- THE CELL 'sum', in the pinned program and in every row, IS THE sha256 OF THE DUMP (.gsa) THAT YtadfnbmogobopaaProg.lean LOADS. Nothing in Lean hashes anything: it is a label: what it is worth is what the hold of that sum in a sandbox is worth. -/
noncomputable def Try.pinned : Pinned := { name := "ytadfnbmogobopaa", sum := "d8f0ffaf7efb959b7275c0e2c05e5f2d1382b6554bd91df83f1ca4f6f0327c8d", checked := Try.checked }
namespace Rows
def none {H : Type} : Left H := { results := [], args := [] }

/-- 'osierlaw20.LinCut': WHATEVER THE INPUT: true; the input reads as it did. -/
def linCutSpec : ChangeSpec := { name := "linCut", fn := fun _ => fun
  | [d1, d2, d3, d4] => { results := [.lit (.bool true)], args := [d1, d2, d3, d4] }
  | _ => none }
def linCutRow : OpenClaim := { program := "ytadfnbmogobopaa", sum := "d8f0ffaf7efb959b7275c0e2c05e5f2d1382b6554bd91df83f1ca4f6f0327c8d", func := "osier/osierlaw20.LinCut", spec := "linCut", unfollowed := true, recurses := true, plainKeys := false, apart := false }
def LinCutSaid : Prop := linCutRow.holds Try.pinned (OpenSpec.ofChange linCutSpec)

/-- ITS FALSE NEIGHBOUR: 'it returns false'. Refute it at one input. -/
def linCutWrong : ChangeSpec := { name := "linCut", fn := fun _ => fun
  | [d1, d2, d3, d4] => { results := [.lit (.bool false)], args := [d1, d2, d3, d4] }
  | _ => none }
def LinCutWrongFalsely : Prop := linCutRow.holds Try.pinned (OpenSpec.ofChange linCutWrong)

/-- 'osierlaw20.LinMany': WHATEVER THE INPUT: true; the input reads as it did. -/
def linManySpec : ChangeSpec := { name := "linMany", fn := fun _ => fun
  | [d1, d2] => { results := [.lit (.bool true)], args := [d1, d2] }
  | _ => none }
def linManyRow : OpenClaim := { program := "ytadfnbmogobopaa", sum := "d8f0ffaf7efb959b7275c0e2c05e5f2d1382b6554bd91df83f1ca4f6f0327c8d", func := "osier/osierlaw20.LinMany", spec := "linMany", unfollowed := true, recurses := true, plainKeys := false, apart := false }
def LinManySaid : Prop := linManyRow.holds Try.pinned (OpenSpec.ofChange linManySpec)

/-- ITS FALSE NEIGHBOUR: 'it returns false'. Refute it at one input. -/
def linManyWrong : ChangeSpec := { name := "linMany", fn := fun _ => fun
  | [d1, d2] => { results := [.lit (.bool false)], args := [d1, d2] }
  | _ => none }
def LinManyWrongFalsely : Prop := linManyRow.holds Try.pinned (OpenSpec.ofChange linManyWrong)

/-- 'osierlaw20.LinWrong': WHATEVER THE INPUT: true; the input reads as it did. -/
def linWrongSpec : ChangeSpec := { name := "linWrong", fn := fun _ => fun
  | [d1, d2, d3, d4] => { results := [.lit (.bool true)], args := [d1, d2, d3, d4] }
  | _ => none }
def linWrongRow : OpenClaim := { program := "ytadfnbmogobopaa", sum := "d8f0ffaf7efb959b7275c0e2c05e5f2d1382b6554bd91df83f1ca4f6f0327c8d", func := "osier/osierlaw20.LinWrong", spec := "linWrong", unfollowed := true, recurses := true, plainKeys := false, apart := false }
def LinWrongSaid : Prop := linWrongRow.holds Try.pinned (OpenSpec.ofChange linWrongSpec)

/-- ITS FALSE NEIGHBOUR: 'it returns false'. Refute it at one input. -/
def linWrongWrong : ChangeSpec := { name := "linWrong", fn := fun _ => fun
  | [d1, d2, d3, d4] => { results := [.lit (.bool false)], args := [d1, d2, d3, d4] }
  | _ => none }
def LinWrongWrongFalsely : Prop := linWrongRow.holds Try.pinned (OpenSpec.ofChange linWrongWrong)

/-- 'osierlaw20.LinAtOnce': WHATEVER THE INPUT: true; the input reads as it did. -/
def linAtOnceSpec : ChangeSpec := { name := "linAtOnce", fn := fun _ => fun
  | [d1, d2] => { results := [.lit (.bool true)], args := [d1, d2] }
  | _ => none }
def linAtOnceRow : OpenClaim := { program := "ytadfnbmogobopaa", sum := "d8f0ffaf7efb959b7275c0e2c05e5f2d1382b6554bd91df83f1ca4f6f0327c8d", func := "osier/osierlaw20.LinAtOnce", spec := "linAtOnce", unfollowed := true, recurses := true, plainKeys := false, apart := false }
def LinAtOnceSaid : Prop := linAtOnceRow.holds Try.pinned (OpenSpec.ofChange linAtOnceSpec)

/-- ITS FALSE NEIGHBOUR: 'it returns false'. Refute it at one input. -/
def linAtOnceWrong : ChangeSpec := { name := "linAtOnce", fn := fun _ => fun
  | [d1, d2] => { results := [.lit (.bool false)], args := [d1, d2] }
  | _ => none }
def LinAtOnceWrongFalsely : Prop := linAtOnceRow.holds Try.pinned (OpenSpec.ofChange linAtOnceWrong)

/-- 'osierlaw20.LinOrders': WHATEVER THE INPUT: true; the input reads as it did. -/
def linOrdersSpec : ChangeSpec := { name := "linOrders", fn := fun _ => fun
  | [d1, d2, d3] => { results := [.lit (.bool true)], args := [d1, d2, d3] }
  | _ => none }
def linOrdersRow : OpenClaim := { program := "ytadfnbmogobopaa", sum := "d8f0ffaf7efb959b7275c0e2c05e5f2d1382b6554bd91df83f1ca4f6f0327c8d", func := "osier/osierlaw20.LinOrders", spec := "linOrders", unfollowed := true, recurses := true, plainKeys := false, apart := false }
def LinOrdersSaid : Prop := linOrdersRow.holds Try.pinned (OpenSpec.ofChange linOrdersSpec)

/-- ITS FALSE NEIGHBOUR: 'it returns false'. Refute it at one input. -/
def linOrdersWrong : ChangeSpec := { name := "linOrders", fn := fun _ => fun
  | [d1, d2, d3] => { results := [.lit (.bool false)], args := [d1, d2, d3] }
  | _ => none }
def LinOrdersWrongFalsely : Prop := linOrdersRow.holds Try.pinned (OpenSpec.ofChange linOrdersWrong)

/- THE SECOND FORM. 'bulk': how many values and letters a reading holds, each counted each time it is reached (what is shared counts as often as it is met; a slice's spare places count too). A statement '..UptoSaid' is the law's where the arguments, and the package variables that the reading takes, are together of bulk at most 1048576: NARROWER than '..Said'. Prove '..Said' where nothing that the law and all that it calls make is longer than what came in: it says more and counts as full. Else prove '..UptoSaid'. A law counts once. -/
mutual
def uptoBulk {H : Type} : DataW H → Nat
  | .lit (.string bytes) => bytes.length + 1
  | .lit _ => 1
  | .nil => 1
  | .ptr d => uptoBulk d + 1
  | .slice elems spare => uptoBulkAll elems + uptoBulkAll spare + 1
  | .agg parts => uptoBulkAll parts + 1
  | .iface _ d => uptoBulk d + 1
  | .map entries => uptoBulkEntries entries + 1
  | .held _ => 1
def uptoBulkAll {H : Type} : List (DataW H) → Nat
  | [] => 0
  | d :: r => uptoBulk d + uptoBulkAll r
def uptoBulkEntries {H : Type} : List (Lit × DataW H) → Nat
  | [] => 0
  | x :: r => uptoBulkEntry x + uptoBulkEntries r
def uptoBulkEntry {H : Type} : Lit × DataW H → Nat
  | (.string bytes, d) => bytes.length + uptoBulk d + 1
  | (_, d) => uptoBulk d + 1
 end
def uptoSmall : (H : Type) → List (DataW H) → Bool := fun _ ds => decide (uptoBulkAll ds ≤ 1048576)
def OpenSpec.upto (s : _root_.Go.ChangeSpec) : _root_.Go.OpenSpec := { _root_.Go.OpenSpec.ofChange s with cond := some uptoSmall }

/-- 'osierlaw20.LinCut', WHERE WHAT IT READS IS OF BULK AT MOST 1048576: true; the input reads as it did. -/
def linCutUptoRow : OpenClaim := { program := "ytadfnbmogobopaa", sum := "d8f0ffaf7efb959b7275c0e2c05e5f2d1382b6554bd91df83f1ca4f6f0327c8d", func := "osier/osierlaw20.LinCut", spec := "linCut", unfollowed := true, recurses := true, plainKeys := false, apart := false, narrowed := true }
def LinCutUptoSaid : Prop := linCutUptoRow.holds Try.pinned (OpenSpec.upto linCutSpec)

/-- 'osierlaw20.LinMany', WHERE WHAT IT READS IS OF BULK AT MOST 1048576: true; the input reads as it did. -/
def linManyUptoRow : OpenClaim := { program := "ytadfnbmogobopaa", sum := "d8f0ffaf7efb959b7275c0e2c05e5f2d1382b6554bd91df83f1ca4f6f0327c8d", func := "osier/osierlaw20.LinMany", spec := "linMany", unfollowed := true, recurses := true, plainKeys := false, apart := false, narrowed := true }
def LinManyUptoSaid : Prop := linManyUptoRow.holds Try.pinned (OpenSpec.upto linManySpec)

/-- 'osierlaw20.LinWrong', WHERE WHAT IT READS IS OF BULK AT MOST 1048576: true; the input reads as it did. -/
def linWrongUptoRow : OpenClaim := { program := "ytadfnbmogobopaa", sum := "d8f0ffaf7efb959b7275c0e2c05e5f2d1382b6554bd91df83f1ca4f6f0327c8d", func := "osier/osierlaw20.LinWrong", spec := "linWrong", unfollowed := true, recurses := true, plainKeys := false, apart := false, narrowed := true }
def LinWrongUptoSaid : Prop := linWrongUptoRow.holds Try.pinned (OpenSpec.upto linWrongSpec)

/-- 'osierlaw20.LinAtOnce', WHERE WHAT IT READS IS OF BULK AT MOST 1048576: true; the input reads as it did. -/
def linAtOnceUptoRow : OpenClaim := { program := "ytadfnbmogobopaa", sum := "d8f0ffaf7efb959b7275c0e2c05e5f2d1382b6554bd91df83f1ca4f6f0327c8d", func := "osier/osierlaw20.LinAtOnce", spec := "linAtOnce", unfollowed := true, recurses := true, plainKeys := false, apart := false, narrowed := true }
def LinAtOnceUptoSaid : Prop := linAtOnceUptoRow.holds Try.pinned (OpenSpec.upto linAtOnceSpec)

/-- 'osierlaw20.LinOrders', WHERE WHAT IT READS IS OF BULK AT MOST 1048576: true; the input reads as it did. -/
def linOrdersUptoRow : OpenClaim := { program := "ytadfnbmogobopaa", sum := "d8f0ffaf7efb959b7275c0e2c05e5f2d1382b6554bd91df83f1ca4f6f0327c8d", func := "osier/osierlaw20.LinOrders", spec := "linOrders", unfollowed := true, recurses := true, plainKeys := false, apart := false, narrowed := true }
def LinOrdersUptoSaid : Prop := linOrdersUptoRow.holds Try.pinned (OpenSpec.upto linOrdersSpec)

end Rows
end Go.Proofs.Ytadfnbmogobopaa
