/-
  No cell of these rows narrows 'for every input' (looked for: loops, veiled, ifaces, maps, wideKeys, modest, calm, conditions, laid).
  DERIVED. THE GIVEN ROWS OF THIS SEAT. 9 by the template 'for every input the law returns true; each argument reads behind the call as it read before'; 0 by the template 'total and deterministic' (their statements: YtdonidohmenccaaTotals.lean).
  GIVEN WITH THE SEED: the statements are not yours to turn. If you find one false, say at which input.
  Laid BY PROGRAM, IN A SANDBOX (cutbox-rows.mjs): the forced cells as the released guide's own fill.sh prints them over the translation ee27fa6f30bf74d5… (all of the seat's roots in one cut). By AI agents, Wed Nov 11 2026. No macro, syntax, notation, axiom, sorry.
-/
import Derived.Test.YtdonidohmenccaaChecked
import GoSem.Claim
import GoSem.ClaimJoined
import GoSem.ClaimMapViews
import Derived.JoinedTies
import Derived.KernelRfl
namespace Go.Proofs.Ytdonidohmenccaa
/- THE CELL 'sum', in the pinned program and in every row, IS THE sha256 OF THE DUMP (.gsa) THAT YtdonidohmenccaaProg.lean LOADS. Nothing in Lean hashes anything: it is a label: what it is worth is what the hold of that sum in a sandbox is worth. -/
noncomputable def Try.pinned : Pinned := { name := "ytdonidohmenccaa", sum := "ee27fa6f30bf74d5429356a9ebb9d12e9eca46a416fd6daaf610aefc63303ab5", checked := Try.checked }
namespace Rows
def none {H : Type} : Left H := { results := [], args := [] }

/-- 'osierlaw5.PutForms': WHATEVER THE INPUT: true; the input reads as it did. -/
def putFormsSpec : ChangeSpec := { name := "putForms", fn := fun _ => fun
  | [d1, d2, d3] => { results := [.lit (.bool true)], args := [d1, d2, d3] }
  | _ => none }
def putFormsRow : OpenClaim := { program := "ytdonidohmenccaa", sum := "ee27fa6f30bf74d5429356a9ebb9d12e9eca46a416fd6daaf610aefc63303ab5", func := "osier/osierlaw5.PutForms", spec := "putForms", recurses := true, apart := false }
def PutFormsSaid : Prop := putFormsRow.holds Try.pinned (OpenSpec.ofChange putFormsSpec)

/-- ITS FALSE NEIGHBOUR: 'it returns false'. Refute it at one input. -/
def putFormsWrong : ChangeSpec := { name := "putForms", fn := fun _ => fun
  | [d1, d2, d3] => { results := [.lit (.bool false)], args := [d1, d2, d3] }
  | _ => none }
def PutFormsWrongFalsely : Prop := putFormsRow.holds Try.pinned (OpenSpec.ofChange putFormsWrong)

/-- 'osierlaw5.PutOrder': WHATEVER THE INPUT: true; the input reads as it did. -/
def putOrderSpec : ChangeSpec := { name := "putOrder", fn := fun _ => fun
  | [d1, d2] => { results := [.lit (.bool true)], args := [d1, d2] }
  | _ => none }
def putOrderRow : OpenClaim := { program := "ytdonidohmenccaa", sum := "ee27fa6f30bf74d5429356a9ebb9d12e9eca46a416fd6daaf610aefc63303ab5", func := "osier/osierlaw5.PutOrder", spec := "putOrder", recurses := true, apart := false }
def PutOrderSaid : Prop := putOrderRow.holds Try.pinned (OpenSpec.ofChange putOrderSpec)

/-- ITS FALSE NEIGHBOUR: 'it returns false'. Refute it at one input. -/
def putOrderWrong : ChangeSpec := { name := "putOrder", fn := fun _ => fun
  | [d1, d2] => { results := [.lit (.bool false)], args := [d1, d2] }
  | _ => none }
def PutOrderWrongFalsely : Prop := putOrderRow.holds Try.pinned (OpenSpec.ofChange putOrderWrong)

/-- 'osierlaw5.PutFull': WHATEVER THE INPUT: true; the input reads as it did. -/
def putFullSpec : ChangeSpec := { name := "putFull", fn := fun _ => fun
  | [d1, d2, d3] => { results := [.lit (.bool true)], args := [d1, d2, d3] }
  | _ => none }
def putFullRow : OpenClaim := { program := "ytdonidohmenccaa", sum := "ee27fa6f30bf74d5429356a9ebb9d12e9eca46a416fd6daaf610aefc63303ab5", func := "osier/osierlaw5.PutFull", spec := "putFull", recurses := true, apart := false }
def PutFullSaid : Prop := putFullRow.holds Try.pinned (OpenSpec.ofChange putFullSpec)

/-- ITS FALSE NEIGHBOUR: 'it returns false'. Refute it at one input. -/
def putFullWrong : ChangeSpec := { name := "putFull", fn := fun _ => fun
  | [d1, d2, d3] => { results := [.lit (.bool false)], args := [d1, d2, d3] }
  | _ => none }
def PutFullWrongFalsely : Prop := putFullRow.holds Try.pinned (OpenSpec.ofChange putFullWrong)

/-- 'osierlaw5.PutGets': WHATEVER THE INPUT: true; the input reads as it did. -/
def putGetsSpec : ChangeSpec := { name := "putGets", fn := fun _ => fun
  | [d1, d2, d3] => { results := [.lit (.bool true)], args := [d1, d2, d3] }
  | _ => none }
def putGetsRow : OpenClaim := { program := "ytdonidohmenccaa", sum := "ee27fa6f30bf74d5429356a9ebb9d12e9eca46a416fd6daaf610aefc63303ab5", func := "osier/osierlaw5.PutGets", spec := "putGets", recurses := true, apart := false }
def PutGetsSaid : Prop := putGetsRow.holds Try.pinned (OpenSpec.ofChange putGetsSpec)

/-- ITS FALSE NEIGHBOUR: 'it returns false'. Refute it at one input. -/
def putGetsWrong : ChangeSpec := { name := "putGets", fn := fun _ => fun
  | [d1, d2, d3] => { results := [.lit (.bool false)], args := [d1, d2, d3] }
  | _ => none }
def PutGetsWrongFalsely : Prop := putGetsRow.holds Try.pinned (OpenSpec.ofChange putGetsWrong)

/-- 'osierlaw6.CutPut': WHATEVER THE INPUT: true; the input reads as it did. -/
def cutPutSpec : ChangeSpec := { name := "cutPut", fn := fun _ => fun
  | [d1, d2, d3] => { results := [.lit (.bool true)], args := [d1, d2, d3] }
  | _ => none }
def cutPutRow : OpenClaim := { program := "ytdonidohmenccaa", sum := "ee27fa6f30bf74d5429356a9ebb9d12e9eca46a416fd6daaf610aefc63303ab5", func := "osier/osierlaw6.CutPut", spec := "cutPut", recurses := true, apart := false }
def CutPutSaid : Prop := cutPutRow.holds Try.pinned (OpenSpec.ofChange cutPutSpec)

/-- ITS FALSE NEIGHBOUR: 'it returns false'. Refute it at one input. -/
def cutPutWrong : ChangeSpec := { name := "cutPut", fn := fun _ => fun
  | [d1, d2, d3] => { results := [.lit (.bool false)], args := [d1, d2, d3] }
  | _ => none }
def CutPutWrongFalsely : Prop := cutPutRow.holds Try.pinned (OpenSpec.ofChange cutPutWrong)

/-- 'osierlaw7.PartForms': WHATEVER THE INPUT: true; the input reads as it did. -/
def partFormsSpec : ChangeSpec := { name := "partForms", fn := fun _ => fun
  | [d1, d2] => { results := [.lit (.bool true)], args := [d1, d2] }
  | _ => none }
def partFormsRow : OpenClaim := { program := "ytdonidohmenccaa", sum := "ee27fa6f30bf74d5429356a9ebb9d12e9eca46a416fd6daaf610aefc63303ab5", func := "osier/osierlaw7.PartForms", spec := "partForms", recurses := true, apart := false }
def PartFormsSaid : Prop := partFormsRow.holds Try.pinned (OpenSpec.ofChange partFormsSpec)

/-- ITS FALSE NEIGHBOUR: 'it returns false'. Refute it at one input. -/
def partFormsWrong : ChangeSpec := { name := "partForms", fn := fun _ => fun
  | [d1, d2] => { results := [.lit (.bool false)], args := [d1, d2] }
  | _ => none }
def PartFormsWrongFalsely : Prop := partFormsRow.holds Try.pinned (OpenSpec.ofChange partFormsWrong)

/-- 'osierlaw7.PartFull': WHATEVER THE INPUT: true; the input reads as it did. -/
def partFullSpec : ChangeSpec := { name := "partFull", fn := fun _ => fun
  | [d1, d2, d3] => { results := [.lit (.bool true)], args := [d1, d2, d3] }
  | _ => none }
def partFullRow : OpenClaim := { program := "ytdonidohmenccaa", sum := "ee27fa6f30bf74d5429356a9ebb9d12e9eca46a416fd6daaf610aefc63303ab5", func := "osier/osierlaw7.PartFull", spec := "partFull", recurses := true, apart := false }
def PartFullSaid : Prop := partFullRow.holds Try.pinned (OpenSpec.ofChange partFullSpec)

/-- ITS FALSE NEIGHBOUR: 'it returns false'. Refute it at one input. -/
def partFullWrong : ChangeSpec := { name := "partFull", fn := fun _ => fun
  | [d1, d2, d3] => { results := [.lit (.bool false)], args := [d1, d2, d3] }
  | _ => none }
def PartFullWrongFalsely : Prop := partFullRow.holds Try.pinned (OpenSpec.ofChange partFullWrong)

/-- 'osierlaw7.PartMiddle': WHATEVER THE INPUT: true; the input reads as it did. -/
def partMiddleSpec : ChangeSpec := { name := "partMiddle", fn := fun _ => fun
  | [d] => { results := [.lit (.bool true)], args := [d] }
  | _ => none }
def partMiddleRow : OpenClaim := { program := "ytdonidohmenccaa", sum := "ee27fa6f30bf74d5429356a9ebb9d12e9eca46a416fd6daaf610aefc63303ab5", func := "osier/osierlaw7.PartMiddle", spec := "partMiddle", unfollowed := true, recurses := true, apart := false }
def PartMiddleSaid : Prop := partMiddleRow.holds Try.pinned (OpenSpec.ofChange partMiddleSpec)

/-- ITS FALSE NEIGHBOUR: 'it returns false'. Refute it at one input. -/
def partMiddleWrong : ChangeSpec := { name := "partMiddle", fn := fun _ => fun
  | [d] => { results := [.lit (.bool false)], args := [d] }
  | _ => none }
def PartMiddleWrongFalsely : Prop := partMiddleRow.holds Try.pinned (OpenSpec.ofChange partMiddleWrong)

/-- 'osierlaw7.PartEnds': WHATEVER THE INPUT: true; the input reads as it did. -/
def partEndsSpec : ChangeSpec := { name := "partEnds", fn := fun _ => fun
  | [d1, d2] => { results := [.lit (.bool true)], args := [d1, d2] }
  | _ => none }
def partEndsRow : OpenClaim := { program := "ytdonidohmenccaa", sum := "ee27fa6f30bf74d5429356a9ebb9d12e9eca46a416fd6daaf610aefc63303ab5", func := "osier/osierlaw7.PartEnds", spec := "partEnds", recurses := true, apart := false }
def PartEndsSaid : Prop := partEndsRow.holds Try.pinned (OpenSpec.ofChange partEndsSpec)

/-- ITS FALSE NEIGHBOUR: 'it returns false'. Refute it at one input. -/
def partEndsWrong : ChangeSpec := { name := "partEnds", fn := fun _ => fun
  | [d1, d2] => { results := [.lit (.bool false)], args := [d1, d2] }
  | _ => none }
def PartEndsWrongFalsely : Prop := partEndsRow.holds Try.pinned (OpenSpec.ofChange partEndsWrong)

/- THE SECOND FORM. 'bulk': how many values and letters a reading holds, each counted each time it is reached (what is shared counts as often as it is met; a slice's spare places count too). A statement '..UptoSaid' is the law's where the arguments, and the package variables that the reading takes, are together of bulk at most 1048576: NARROWER than '..Said'. Prove '..Said' where nothing that the law and all that it calls make is longer than what came in: it says more and counts as full. Else prove '..UptoSaid'. A law counts once. -/
mutual
def uptoBulk {H : Type} : DataW H → Nat
  | .lit (.string bytes) => bytes.length + 1
  | .lit _ => 1
  | .nil => 1
  | .ptr d => uptoBulk d + 1
  | .slice elems spare => uptoBulkAll elems + uptoBulkAll spare + 1
  | .agg parts => uptoBulkAll parts + 1
  | .iface _ d => uptoBulk d + 1
  | .map entries => uptoBulkEntries entries + 1
  | .held _ => 1
def uptoBulkAll {H : Type} : List (DataW H) → Nat
  | [] => 0
  | d :: r => uptoBulk d + uptoBulkAll r
def uptoBulkEntries {H : Type} : List (Lit × DataW H) → Nat
  | [] => 0
  | x :: r => uptoBulkEntry x + uptoBulkEntries r
def uptoBulkEntry {H : Type} : Lit × DataW H → Nat
  | (.string bytes, d) => bytes.length + uptoBulk d + 1
  | (_, d) => uptoBulk d + 1
 end
def uptoSmall : (H : Type) → List (DataW H) → Bool := fun _ ds => decide (uptoBulkAll ds ≤ 1048576)
def OpenSpec.upto (s : _root_.Go.ChangeSpec) : _root_.Go.OpenSpec := { _root_.Go.OpenSpec.ofChange s with cond := some uptoSmall }

/-- 'osierlaw5.PutForms', WHERE WHAT IT READS IS OF BULK AT MOST 1048576: true; the input reads as it did. -/
def putFormsUptoRow : OpenClaim := { program := "ytdonidohmenccaa", sum := "ee27fa6f30bf74d5429356a9ebb9d12e9eca46a416fd6daaf610aefc63303ab5", func := "osier/osierlaw5.PutForms", spec := "putForms", recurses := true, apart := false, narrowed := true }
def PutFormsUptoSaid : Prop := putFormsUptoRow.holds Try.pinned (OpenSpec.upto putFormsSpec)

/-- 'osierlaw5.PutOrder', WHERE WHAT IT READS IS OF BULK AT MOST 1048576: true; the input reads as it did. -/
def putOrderUptoRow : OpenClaim := { program := "ytdonidohmenccaa", sum := "ee27fa6f30bf74d5429356a9ebb9d12e9eca46a416fd6daaf610aefc63303ab5", func := "osier/osierlaw5.PutOrder", spec := "putOrder", recurses := true, apart := false, narrowed := true }
def PutOrderUptoSaid : Prop := putOrderUptoRow.holds Try.pinned (OpenSpec.upto putOrderSpec)

/-- 'osierlaw5.PutFull', WHERE WHAT IT READS IS OF BULK AT MOST 1048576: true; the input reads as it did. -/
def putFullUptoRow : OpenClaim := { program := "ytdonidohmenccaa", sum := "ee27fa6f30bf74d5429356a9ebb9d12e9eca46a416fd6daaf610aefc63303ab5", func := "osier/osierlaw5.PutFull", spec := "putFull", recurses := true, apart := false, narrowed := true }
def PutFullUptoSaid : Prop := putFullUptoRow.holds Try.pinned (OpenSpec.upto putFullSpec)

/-- 'osierlaw5.PutGets', WHERE WHAT IT READS IS OF BULK AT MOST 1048576: true; the input reads as it did. -/
def putGetsUptoRow : OpenClaim := { program := "ytdonidohmenccaa", sum := "ee27fa6f30bf74d5429356a9ebb9d12e9eca46a416fd6daaf610aefc63303ab5", func := "osier/osierlaw5.PutGets", spec := "putGets", recurses := true, apart := false, narrowed := true }
def PutGetsUptoSaid : Prop := putGetsUptoRow.holds Try.pinned (OpenSpec.upto putGetsSpec)

/-- 'osierlaw6.CutPut', WHERE WHAT IT READS IS OF BULK AT MOST 1048576: true; the input reads as it did. -/
def cutPutUptoRow : OpenClaim := { program := "ytdonidohmenccaa", sum := "ee27fa6f30bf74d5429356a9ebb9d12e9eca46a416fd6daaf610aefc63303ab5", func := "osier/osierlaw6.CutPut", spec := "cutPut", recurses := true, apart := false, narrowed := true }
def CutPutUptoSaid : Prop := cutPutUptoRow.holds Try.pinned (OpenSpec.upto cutPutSpec)

/-- 'osierlaw7.PartForms', WHERE WHAT IT READS IS OF BULK AT MOST 1048576: true; the input reads as it did. -/
def partFormsUptoRow : OpenClaim := { program := "ytdonidohmenccaa", sum := "ee27fa6f30bf74d5429356a9ebb9d12e9eca46a416fd6daaf610aefc63303ab5", func := "osier/osierlaw7.PartForms", spec := "partForms", recurses := true, apart := false, narrowed := true }
def PartFormsUptoSaid : Prop := partFormsUptoRow.holds Try.pinned (OpenSpec.upto partFormsSpec)

/-- 'osierlaw7.PartFull', WHERE WHAT IT READS IS OF BULK AT MOST 1048576: true; the input reads as it did. -/
def partFullUptoRow : OpenClaim := { program := "ytdonidohmenccaa", sum := "ee27fa6f30bf74d5429356a9ebb9d12e9eca46a416fd6daaf610aefc63303ab5", func := "osier/osierlaw7.PartFull", spec := "partFull", recurses := true, apart := false, narrowed := true }
def PartFullUptoSaid : Prop := partFullUptoRow.holds Try.pinned (OpenSpec.upto partFullSpec)

/-- 'osierlaw7.PartMiddle', WHERE WHAT IT READS IS OF BULK AT MOST 1048576: true; the input reads as it did. -/
def partMiddleUptoRow : OpenClaim := { program := "ytdonidohmenccaa", sum := "ee27fa6f30bf74d5429356a9ebb9d12e9eca46a416fd6daaf610aefc63303ab5", func := "osier/osierlaw7.PartMiddle", spec := "partMiddle", unfollowed := true, recurses := true, apart := false, narrowed := true }
def PartMiddleUptoSaid : Prop := partMiddleUptoRow.holds Try.pinned (OpenSpec.upto partMiddleSpec)

/-- 'osierlaw7.PartEnds', WHERE WHAT IT READS IS OF BULK AT MOST 1048576: true; the input reads as it did. -/
def partEndsUptoRow : OpenClaim := { program := "ytdonidohmenccaa", sum := "ee27fa6f30bf74d5429356a9ebb9d12e9eca46a416fd6daaf610aefc63303ab5", func := "osier/osierlaw7.PartEnds", spec := "partEnds", recurses := true, apart := false, narrowed := true }
def PartEndsUptoSaid : Prop := partEndsUptoRow.holds Try.pinned (OpenSpec.upto partEndsSpec)

end Rows
end Go.Proofs.Ytdonidohmenccaa
