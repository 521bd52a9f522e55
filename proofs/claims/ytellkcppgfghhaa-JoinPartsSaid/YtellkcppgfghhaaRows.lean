/-
  No cell of these rows narrows 'for every input' (looked for: loops, veiled, ifaces, maps, wideKeys, modest, calm, conditions, laid).
  DERIVED. THE GIVEN ROWS OF THIS SEAT. 8 by the template 'for every input the law returns true; each argument reads behind the call as it read before'; 0 by the template 'total and deterministic' (their statements: YtellkcppgfghhaaTotals.lean).
  GIVEN WITH THE SEED: the statements are not yours to turn. If you find one false, say at which input.
  Laid BY PROGRAM, IN A SANDBOX (cutbox-rows.mjs): the forced cells as the released guide's own fill.sh prints them over the translation fdd9171f68292cf7… (all of the seat's roots in one cut). By AI agents, Wed Nov 11 2026. No macro, syntax, notation, axiom, sorry.
-/
import Derived.Test.YtellkcppgfghhaaChecked
import GoSem.Claim
import GoSem.ClaimJoined
import GoSem.ClaimMapViews
import Derived.JoinedTies
import Derived.KernelRfl
namespace Go.Proofs.Ytellkcppgfghhaa
/- THE CELL 'sum', in the pinned program and in every row, IS THE sha256 OF THE DUMP (.gsa) THAT YtellkcppgfghhaaProg.lean LOADS. Nothing in Lean hashes anything: it is a label: what it is worth is what the hold of that sum in a sandbox is worth. -/
noncomputable def Try.pinned : Pinned := { name := "ytellkcppgfghhaa", sum := "fdd9171f68292cf7845b113f0af329f0bb055a9a4b2efbe37bc9bae09b966c04", checked := Try.checked }
namespace Rows
def none {H : Type} : Left H := { results := [], args := [] }

/-- 'osierlaw6.CutPut': WHATEVER THE INPUT: true; the input reads as it did. -/
def cutPutSpec : ChangeSpec := { name := "cutPut", fn := fun _ => fun
  | [d1, d2, d3] => { results := [.lit (.bool true)], args := [d1, d2, d3] }
  | _ => none }
def cutPutRow : OpenClaim := { program := "ytellkcppgfghhaa", sum := "fdd9171f68292cf7845b113f0af329f0bb055a9a4b2efbe37bc9bae09b966c04", func := "osier/osierlaw6.CutPut", spec := "cutPut", recurses := true, apart := false }
def CutPutSaid : Prop := cutPutRow.holds Try.pinned (OpenSpec.ofChange cutPutSpec)

/-- ITS FALSE NEIGHBOUR: 'it returns false'. Refute it at one input. -/
def cutPutWrong : ChangeSpec := { name := "cutPut", fn := fun _ => fun
  | [d1, d2, d3] => { results := [.lit (.bool false)], args := [d1, d2, d3] }
  | _ => none }
def CutPutWrongFalsely : Prop := cutPutRow.holds Try.pinned (OpenSpec.ofChange cutPutWrong)

/-- 'osierlaw6.CutFull': WHATEVER THE INPUT: true; the input reads as it did. -/
def cutFullSpec : ChangeSpec := { name := "cutFull", fn := fun _ => fun
  | [d1, d2, d3] => { results := [.lit (.bool true)], args := [d1, d2, d3] }
  | _ => none }
def cutFullRow : OpenClaim := { program := "ytellkcppgfghhaa", sum := "fdd9171f68292cf7845b113f0af329f0bb055a9a4b2efbe37bc9bae09b966c04", func := "osier/osierlaw6.CutFull", spec := "cutFull", recurses := true, apart := false }
def CutFullSaid : Prop := cutFullRow.holds Try.pinned (OpenSpec.ofChange cutFullSpec)

/-- ITS FALSE NEIGHBOUR: 'it returns false'. Refute it at one input. -/
def cutFullWrong : ChangeSpec := { name := "cutFull", fn := fun _ => fun
  | [d1, d2, d3] => { results := [.lit (.bool false)], args := [d1, d2, d3] }
  | _ => none }
def CutFullWrongFalsely : Prop := cutFullRow.holds Try.pinned (OpenSpec.ofChange cutFullWrong)

/-- 'osierlaw6.CutRaw': WHATEVER THE INPUT: true; the input reads as it did. -/
def cutRawSpec : ChangeSpec := { name := "cutRaw", fn := fun _ => fun
  | [d1, d2, d3] => { results := [.lit (.bool true)], args := [d1, d2, d3] }
  | _ => none }
def cutRawRow : OpenClaim := { program := "ytellkcppgfghhaa", sum := "fdd9171f68292cf7845b113f0af329f0bb055a9a4b2efbe37bc9bae09b966c04", func := "osier/osierlaw6.CutRaw", spec := "cutRaw", recurses := true, apart := false }
def CutRawSaid : Prop := cutRawRow.holds Try.pinned (OpenSpec.ofChange cutRawSpec)

/-- ITS FALSE NEIGHBOUR: 'it returns false'. Refute it at one input. -/
def cutRawWrong : ChangeSpec := { name := "cutRaw", fn := fun _ => fun
  | [d1, d2, d3] => { results := [.lit (.bool false)], args := [d1, d2, d3] }
  | _ => none }
def CutRawWrongFalsely : Prop := cutRawRow.holds Try.pinned (OpenSpec.ofChange cutRawWrong)

/-- 'osierlaw8.JoinForms': WHATEVER THE INPUT: true; the input reads as it did. -/
def joinFormsSpec : ChangeSpec := { name := "joinForms", fn := fun _ => fun
  | [d1, d2] => { results := [.lit (.bool true)], args := [d1, d2] }
  | _ => none }
def joinFormsRow : OpenClaim := { program := "ytellkcppgfghhaa", sum := "fdd9171f68292cf7845b113f0af329f0bb055a9a4b2efbe37bc9bae09b966c04", func := "osier/osierlaw8.JoinForms", spec := "joinForms", unfollowed := true, recurses := true, apart := false }
def JoinFormsSaid : Prop := joinFormsRow.holds Try.pinned (OpenSpec.ofChange joinFormsSpec)

/-- ITS FALSE NEIGHBOUR: 'it returns false'. Refute it at one input. -/
def joinFormsWrong : ChangeSpec := { name := "joinForms", fn := fun _ => fun
  | [d1, d2] => { results := [.lit (.bool false)], args := [d1, d2] }
  | _ => none }
def JoinFormsWrongFalsely : Prop := joinFormsRow.holds Try.pinned (OpenSpec.ofChange joinFormsWrong)

/-- 'osierlaw8.JoinParts': WHATEVER THE INPUT: true; the input reads as it did. -/
def joinPartsSpec : ChangeSpec := { name := "joinParts", fn := fun _ => fun
  | [d1, d2] => { results := [.lit (.bool true)], args := [d1, d2] }
  | _ => none }
def joinPartsRow : OpenClaim := { program := "ytellkcppgfghhaa", sum := "fdd9171f68292cf7845b113f0af329f0bb055a9a4b2efbe37bc9bae09b966c04", func := "osier/osierlaw8.JoinParts", spec := "joinParts", unfollowed := true, recurses := true, apart := false }
def JoinPartsSaid : Prop := joinPartsRow.holds Try.pinned (OpenSpec.ofChange joinPartsSpec)

/-- ITS FALSE NEIGHBOUR: 'it returns false'. Refute it at one input. -/
def joinPartsWrong : ChangeSpec := { name := "joinParts", fn := fun _ => fun
  | [d1, d2] => { results := [.lit (.bool false)], args := [d1, d2] }
  | _ => none }
def JoinPartsWrongFalsely : Prop := joinPartsRow.holds Try.pinned (OpenSpec.ofChange joinPartsWrong)

/-- 'osierlaw8.JoinFull': WHATEVER THE INPUT: true; the input reads as it did. -/
def joinFullSpec : ChangeSpec := { name := "joinFull", fn := fun _ => fun
  | [d1, d2, d3] => { results := [.lit (.bool true)], args := [d1, d2, d3] }
  | _ => none }
def joinFullRow : OpenClaim := { program := "ytellkcppgfghhaa", sum := "fdd9171f68292cf7845b113f0af329f0bb055a9a4b2efbe37bc9bae09b966c04", func := "osier/osierlaw8.JoinFull", spec := "joinFull", unfollowed := true, recurses := true, apart := false }
def JoinFullSaid : Prop := joinFullRow.holds Try.pinned (OpenSpec.ofChange joinFullSpec)

/-- ITS FALSE NEIGHBOUR: 'it returns false'. Refute it at one input. -/
def joinFullWrong : ChangeSpec := { name := "joinFull", fn := fun _ => fun
  | [d1, d2, d3] => { results := [.lit (.bool false)], args := [d1, d2, d3] }
  | _ => none }
def JoinFullWrongFalsely : Prop := joinFullRow.holds Try.pinned (OpenSpec.ofChange joinFullWrong)

/-- 'osierlaw8.JoinNothing': WHATEVER THE INPUT: true; the input reads as it did. -/
def joinNothingSpec : ChangeSpec := { name := "joinNothing", fn := fun _ => fun
  | [d] => { results := [.lit (.bool true)], args := [d] }
  | _ => none }
def joinNothingRow : OpenClaim := { program := "ytellkcppgfghhaa", sum := "fdd9171f68292cf7845b113f0af329f0bb055a9a4b2efbe37bc9bae09b966c04", func := "osier/osierlaw8.JoinNothing", spec := "joinNothing", unfollowed := true, recurses := true, apart := false }
def JoinNothingSaid : Prop := joinNothingRow.holds Try.pinned (OpenSpec.ofChange joinNothingSpec)

/-- ITS FALSE NEIGHBOUR: 'it returns false'. Refute it at one input. -/
def joinNothingWrong : ChangeSpec := { name := "joinNothing", fn := fun _ => fun
  | [d] => { results := [.lit (.bool false)], args := [d] }
  | _ => none }
def JoinNothingWrongFalsely : Prop := joinNothingRow.holds Try.pinned (OpenSpec.ofChange joinNothingWrong)

/-- 'osierlaw8.JoinThree': WHATEVER THE INPUT: true; the input reads as it did. -/
def joinThreeSpec : ChangeSpec := { name := "joinThree", fn := fun _ => fun
  | [d1, d2, d3] => { results := [.lit (.bool true)], args := [d1, d2, d3] }
  | _ => none }
def joinThreeRow : OpenClaim := { program := "ytellkcppgfghhaa", sum := "fdd9171f68292cf7845b113f0af329f0bb055a9a4b2efbe37bc9bae09b966c04", func := "osier/osierlaw8.JoinThree", spec := "joinThree", unfollowed := true, recurses := true, apart := false }
def JoinThreeSaid : Prop := joinThreeRow.holds Try.pinned (OpenSpec.ofChange joinThreeSpec)

/-- ITS FALSE NEIGHBOUR: 'it returns false'. Refute it at one input. -/
def joinThreeWrong : ChangeSpec := { name := "joinThree", fn := fun _ => fun
  | [d1, d2, d3] => { results := [.lit (.bool false)], args := [d1, d2, d3] }
  | _ => none }
def JoinThreeWrongFalsely : Prop := joinThreeRow.holds Try.pinned (OpenSpec.ofChange joinThreeWrong)

/- THE SECOND FORM. 'bulk': how many values and letters a reading holds, each counted each time it is reached (what is shared counts as often as it is met; a slice's spare places count too). A statement '..UptoSaid' is the law's where the arguments, and the package variables that the reading takes, are together of bulk at most 1048576: NARROWER than '..Said'. Prove '..Said' where nothing that the law and all that it calls make is longer than what came in: it says more and counts as full. Else prove '..UptoSaid'. A law counts once. -/
mutual
def uptoBulk {H : Type} : DataW H → Nat
  | .lit (.string bytes) => bytes.length + 1
  | .lit _ => 1
  | .nil => 1
  | .ptr d => uptoBulk d + 1
  | .slice elems spare => uptoBulkAll elems + uptoBulkAll spare + 1
  | .agg parts => uptoBulkAll parts + 1
  | .iface _ d => uptoBulk d + 1
  | .map entries => uptoBulkEntries entries + 1
  | .held _ => 1
def uptoBulkAll {H : Type} : List (DataW H) → Nat
  | [] => 0
  | d :: r => uptoBulk d + uptoBulkAll r
def uptoBulkEntries {H : Type} : List (Lit × DataW H) → Nat
  | [] => 0
  | x :: r => uptoBulkEntry x + uptoBulkEntries r
def uptoBulkEntry {H : Type} : Lit × DataW H → Nat
  | (.string bytes, d) => bytes.length + uptoBulk d + 1
  | (_, d) => uptoBulk d + 1
 end
def uptoSmall : (H : Type) → List (DataW H) → Bool := fun _ ds => decide (uptoBulkAll ds ≤ 1048576)
def OpenSpec.upto (s : _root_.Go.ChangeSpec) : _root_.Go.OpenSpec := { _root_.Go.OpenSpec.ofChange s with cond := some uptoSmall }

/-- 'osierlaw6.CutPut', WHERE WHAT IT READS IS OF BULK AT MOST 1048576: true; the input reads as it did. -/
def cutPutUptoRow : OpenClaim := { program := "ytellkcppgfghhaa", sum := "fdd9171f68292cf7845b113f0af329f0bb055a9a4b2efbe37bc9bae09b966c04", func := "osier/osierlaw6.CutPut", spec := "cutPut", recurses := true, apart := false, narrowed := true }
def CutPutUptoSaid : Prop := cutPutUptoRow.holds Try.pinned (OpenSpec.upto cutPutSpec)

/-- 'osierlaw6.CutFull', WHERE WHAT IT READS IS OF BULK AT MOST 1048576: true; the input reads as it did. -/
def cutFullUptoRow : OpenClaim := { program := "ytellkcppgfghhaa", sum := "fdd9171f68292cf7845b113f0af329f0bb055a9a4b2efbe37bc9bae09b966c04", func := "osier/osierlaw6.CutFull", spec := "cutFull", recurses := true, apart := false, narrowed := true }
def CutFullUptoSaid : Prop := cutFullUptoRow.holds Try.pinned (OpenSpec.upto cutFullSpec)

/-- 'osierlaw6.CutRaw', WHERE WHAT IT READS IS OF BULK AT MOST 1048576: true; the input reads as it did. -/
def cutRawUptoRow : OpenClaim := { program := "ytellkcppgfghhaa", sum := "fdd9171f68292cf7845b113f0af329f0bb055a9a4b2efbe37bc9bae09b966c04", func := "osier/osierlaw6.CutRaw", spec := "cutRaw", recurses := true, apart := false, narrowed := true }
def CutRawUptoSaid : Prop := cutRawUptoRow.holds Try.pinned (OpenSpec.upto cutRawSpec)

/-- 'osierlaw8.JoinForms', WHERE WHAT IT READS IS OF BULK AT MOST 1048576: true; the input reads as it did. -/
def joinFormsUptoRow : OpenClaim := { program := "ytellkcppgfghhaa", sum := "fdd9171f68292cf7845b113f0af329f0bb055a9a4b2efbe37bc9bae09b966c04", func := "osier/osierlaw8.JoinForms", spec := "joinForms", unfollowed := true, recurses := true, apart := false, narrowed := true }
def JoinFormsUptoSaid : Prop := joinFormsUptoRow.holds Try.pinned (OpenSpec.upto joinFormsSpec)

/-- 'osierlaw8.JoinParts', WHERE WHAT IT READS IS OF BULK AT MOST 1048576: true; the input reads as it did. -/
def joinPartsUptoRow : OpenClaim := { program := "ytellkcppgfghhaa", sum := "fdd9171f68292cf7845b113f0af329f0bb055a9a4b2efbe37bc9bae09b966c04", func := "osier/osierlaw8.JoinParts", spec := "joinParts", unfollowed := true, recurses := true, apart := false, narrowed := true }
def JoinPartsUptoSaid : Prop := joinPartsUptoRow.holds Try.pinned (OpenSpec.upto joinPartsSpec)

/-- 'osierlaw8.JoinFull', WHERE WHAT IT READS IS OF BULK AT MOST 1048576: true; the input reads as it did. -/
def joinFullUptoRow : OpenClaim := { program := "ytellkcppgfghhaa", sum := "fdd9171f68292cf7845b113f0af329f0bb055a9a4b2efbe37bc9bae09b966c04", func := "osier/osierlaw8.JoinFull", spec := "joinFull", unfollowed := true, recurses := true, apart := false, narrowed := true }
def JoinFullUptoSaid : Prop := joinFullUptoRow.holds Try.pinned (OpenSpec.upto joinFullSpec)

/-- 'osierlaw8.JoinNothing', WHERE WHAT IT READS IS OF BULK AT MOST 1048576: true; the input reads as it did. -/
def joinNothingUptoRow : OpenClaim := { program := "ytellkcppgfghhaa", sum := "fdd9171f68292cf7845b113f0af329f0bb055a9a4b2efbe37bc9bae09b966c04", func := "osier/osierlaw8.JoinNothing", spec := "joinNothing", unfollowed := true, recurses := true, apart := false, narrowed := true }
def JoinNothingUptoSaid : Prop := joinNothingUptoRow.holds Try.pinned (OpenSpec.upto joinNothingSpec)

/-- 'osierlaw8.JoinThree', WHERE WHAT IT READS IS OF BULK AT MOST 1048576: true; the input reads as it did. -/
def joinThreeUptoRow : OpenClaim := { program := "ytellkcppgfghhaa", sum := "fdd9171f68292cf7845b113f0af329f0bb055a9a4b2efbe37bc9bae09b966c04", func := "osier/osierlaw8.JoinThree", spec := "joinThree", unfollowed := true, recurses := true, apart := false, narrowed := true }
def JoinThreeUptoSaid : Prop := joinThreeUptoRow.holds Try.pinned (OpenSpec.upto joinThreeSpec)

end Rows
end Go.Proofs.Ytellkcppgfghhaa
