/-
  No cell of these rows narrows 'for every input' (looked for: loops, veiled, ifaces, maps, wideKeys, modest, calm, conditions, laid).
  DERIVED. THE GIVEN ROWS OF THIS SEAT. 5 by the template 'for every input the law returns true; each argument reads behind the call as it read before'; 0 by the template 'total and deterministic' (their statements: YtipcjkfecppanaaTotals.lean).
  GIVEN WITH THE SEED: the statements are not yours to turn. If you find one false, say at which input.
  Laid BY PROGRAM, IN A SANDBOX (cutbox-rows.mjs): the forced cells as the released guide's own fill.sh prints them over the translation a3301969f938bf90… (all of the seat's roots in one cut). By AI agents, Wed Nov 11 2026. No macro, syntax, notation, axiom, sorry.
-/
import Derived.Test.YtipcjkfecppanaaChecked
import GoSem.Claim
import GoSem.ClaimJoined
import GoSem.ClaimMapViews
import Derived.JoinedTies
import Derived.KernelRfl
namespace Go.Proofs.Ytipcjkfecppanaa
/- THE CELL 'sum', in the pinned program and in every row, IS THE sha256 OF THE DUMP (.gsa) THAT YtipcjkfecppanaaProg.lean LOADS. Nothing in Lean hashes anything: it is a label: what it is worth is what the hold of that sum in a sandbox is worth. -/
noncomputable def Try.pinned : Pinned := { name := "ytipcjkfecppanaa", sum := "a3301969f938bf9060b5ac74fbb10b80ec7f39f66346c16f569b3bbbba757a02", checked := Try.checked }
namespace Rows
def none {H : Type} : Left H := { results := [], args := [] }

/-- 'osierlaw13.LeafForms': WHATEVER THE INPUT: true; the input reads as it did. -/
def leafFormsSpec : ChangeSpec := { name := "leafForms", fn := fun _ => fun
  | [d1, d2, d3, d4, d5, d6] => { results := [.lit (.bool true)], args := [d1, d2, d3, d4, d5, d6] }
  | _ => none }
def leafFormsRow : OpenClaim := { program := "ytipcjkfecppanaa", sum := "a3301969f938bf9060b5ac74fbb10b80ec7f39f66346c16f569b3bbbba757a02", func := "osier/osierlaw13.LeafForms", spec := "leafForms", unfollowed := true, recurses := true, apart := false }
def LeafFormsSaid : Prop := leafFormsRow.holds Try.pinned (OpenSpec.ofChange leafFormsSpec)

/-- ITS FALSE NEIGHBOUR: 'it returns false'. Refute it at one input. -/
def leafFormsWrong : ChangeSpec := { name := "leafForms", fn := fun _ => fun
  | [d1, d2, d3, d4, d5, d6] => { results := [.lit (.bool false)], args := [d1, d2, d3, d4, d5, d6] }
  | _ => none }
def LeafFormsWrongFalsely : Prop := leafFormsRow.holds Try.pinned (OpenSpec.ofChange leafFormsWrong)

/-- 'osierlaw13.LeafGets': WHATEVER THE INPUT: true; the input reads as it did. -/
def leafGetsSpec : ChangeSpec := { name := "leafGets", fn := fun _ => fun
  | [d1, d2] => { results := [.lit (.bool true)], args := [d1, d2] }
  | _ => none }
def leafGetsRow : OpenClaim := { program := "ytipcjkfecppanaa", sum := "a3301969f938bf9060b5ac74fbb10b80ec7f39f66346c16f569b3bbbba757a02", func := "osier/osierlaw13.LeafGets", spec := "leafGets", unfollowed := true, recurses := true, apart := false }
def LeafGetsSaid : Prop := leafGetsRow.holds Try.pinned (OpenSpec.ofChange leafGetsSpec)

/-- ITS FALSE NEIGHBOUR: 'it returns false'. Refute it at one input. -/
def leafGetsWrong : ChangeSpec := { name := "leafGets", fn := fun _ => fun
  | [d1, d2] => { results := [.lit (.bool false)], args := [d1, d2] }
  | _ => none }
def LeafGetsWrongFalsely : Prop := leafGetsRow.holds Try.pinned (OpenSpec.ofChange leafGetsWrong)

/-- 'osierlaw13.LeafRanges': WHATEVER THE INPUT: true; the input reads as it did. -/
def leafRangesSpec : ChangeSpec := { name := "leafRanges", fn := fun _ => fun
  | [d1, d2, d3, d4] => { results := [.lit (.bool true)], args := [d1, d2, d3, d4] }
  | _ => none }
def leafRangesRow : OpenClaim := { program := "ytipcjkfecppanaa", sum := "a3301969f938bf9060b5ac74fbb10b80ec7f39f66346c16f569b3bbbba757a02", func := "osier/osierlaw13.LeafRanges", spec := "leafRanges", unfollowed := true, recurses := true, apart := false }
def LeafRangesSaid : Prop := leafRangesRow.holds Try.pinned (OpenSpec.ofChange leafRangesSpec)

/-- ITS FALSE NEIGHBOUR: 'it returns false'. Refute it at one input. -/
def leafRangesWrong : ChangeSpec := { name := "leafRanges", fn := fun _ => fun
  | [d1, d2, d3, d4] => { results := [.lit (.bool false)], args := [d1, d2, d3, d4] }
  | _ => none }
def LeafRangesWrongFalsely : Prop := leafRangesRow.holds Try.pinned (OpenSpec.ofChange leafRangesWrong)

/-- 'osierlaw13.LeafReads': WHATEVER THE INPUT: true; the input reads as it did. -/
def leafReadsSpec : ChangeSpec := { name := "leafReads", fn := fun _ => fun
  | [d1, d2] => { results := [.lit (.bool true)], args := [d1, d2] }
  | _ => none }
def leafReadsRow : OpenClaim := { program := "ytipcjkfecppanaa", sum := "a3301969f938bf9060b5ac74fbb10b80ec7f39f66346c16f569b3bbbba757a02", func := "osier/osierlaw13.LeafReads", spec := "leafReads", unfollowed := true, recurses := true, apart := false }
def LeafReadsSaid : Prop := leafReadsRow.holds Try.pinned (OpenSpec.ofChange leafReadsSpec)

/-- ITS FALSE NEIGHBOUR: 'it returns false'. Refute it at one input. -/
def leafReadsWrong : ChangeSpec := { name := "leafReads", fn := fun _ => fun
  | [d1, d2] => { results := [.lit (.bool false)], args := [d1, d2] }
  | _ => none }
def LeafReadsWrongFalsely : Prop := leafReadsRow.holds Try.pinned (OpenSpec.ofChange leafReadsWrong)

/-- 'osierlaw13.LeafEnds': WHATEVER THE INPUT: true; the input reads as it did. -/
def leafEndsSpec : ChangeSpec := { name := "leafEnds", fn := fun _ => fun
  | [d] => { results := [.lit (.bool true)], args := [d] }
  | _ => none }
def leafEndsRow : OpenClaim := { program := "ytipcjkfecppanaa", sum := "a3301969f938bf9060b5ac74fbb10b80ec7f39f66346c16f569b3bbbba757a02", func := "osier/osierlaw13.LeafEnds", spec := "leafEnds", unfollowed := true, recurses := true, apart := false }
def LeafEndsSaid : Prop := leafEndsRow.holds Try.pinned (OpenSpec.ofChange leafEndsSpec)

/-- ITS FALSE NEIGHBOUR: 'it returns false'. Refute it at one input. -/
def leafEndsWrong : ChangeSpec := { name := "leafEnds", fn := fun _ => fun
  | [d] => { results := [.lit (.bool false)], args := [d] }
  | _ => none }
def LeafEndsWrongFalsely : Prop := leafEndsRow.holds Try.pinned (OpenSpec.ofChange leafEndsWrong)

/- THE SECOND FORM. 'bulk': how many values and letters a reading holds, each counted each time it is reached (what is shared counts as often as it is met; a slice's spare places count too). A statement '..UptoSaid' is the law's where the arguments, and the package variables that the reading takes, are together of bulk at most 1048576: NARROWER than '..Said'. Prove '..Said' where nothing that the law and all that it calls make is longer than what came in: it says more and counts as full. Else prove '..UptoSaid'. A law counts once. -/
mutual
def uptoBulk {H : Type} : DataW H → Nat
  | .lit (.string bytes) => bytes.length + 1
  | .lit _ => 1
  | .nil => 1
  | .ptr d => uptoBulk d + 1
  | .slice elems spare => uptoBulkAll elems + uptoBulkAll spare + 1
  | .agg parts => uptoBulkAll parts + 1
  | .iface _ d => uptoBulk d + 1
  | .map entries => uptoBulkEntries entries + 1
  | .held _ => 1
def uptoBulkAll {H : Type} : List (DataW H) → Nat
  | [] => 0
  | d :: r => uptoBulk d + uptoBulkAll r
def uptoBulkEntries {H : Type} : List (Lit × DataW H) → Nat
  | [] => 0
  | x :: r => uptoBulkEntry x + uptoBulkEntries r
def uptoBulkEntry {H : Type} : Lit × DataW H → Nat
  | (.string bytes, d) => bytes.length + uptoBulk d + 1
  | (_, d) => uptoBulk d + 1
 end
def uptoSmall : (H : Type) → List (DataW H) → Bool := fun _ ds => decide (uptoBulkAll ds ≤ 1048576)
def OpenSpec.upto (s : _root_.Go.ChangeSpec) : _root_.Go.OpenSpec := { _root_.Go.OpenSpec.ofChange s with cond := some uptoSmall }

/-- 'osierlaw13.LeafForms', WHERE WHAT IT READS IS OF BULK AT MOST 1048576: true; the input reads as it did. -/
def leafFormsUptoRow : OpenClaim := { program := "ytipcjkfecppanaa", sum := "a3301969f938bf9060b5ac74fbb10b80ec7f39f66346c16f569b3bbbba757a02", func := "osier/osierlaw13.LeafForms", spec := "leafForms", unfollowed := true, recurses := true, apart := false, narrowed := true }
def LeafFormsUptoSaid : Prop := leafFormsUptoRow.holds Try.pinned (OpenSpec.upto leafFormsSpec)

/-- 'osierlaw13.LeafGets', WHERE WHAT IT READS IS OF BULK AT MOST 1048576: true; the input reads as it did. -/
def leafGetsUptoRow : OpenClaim := { program := "ytipcjkfecppanaa", sum := "a3301969f938bf9060b5ac74fbb10b80ec7f39f66346c16f569b3bbbba757a02", func := "osier/osierlaw13.LeafGets", spec := "leafGets", unfollowed := true, recurses := true, apart := false, narrowed := true }
def LeafGetsUptoSaid : Prop := leafGetsUptoRow.holds Try.pinned (OpenSpec.upto leafGetsSpec)

/-- 'osierlaw13.LeafRanges', WHERE WHAT IT READS IS OF BULK AT MOST 1048576: true; the input reads as it did. -/
def leafRangesUptoRow : OpenClaim := { program := "ytipcjkfecppanaa", sum := "a3301969f938bf9060b5ac74fbb10b80ec7f39f66346c16f569b3bbbba757a02", func := "osier/osierlaw13.LeafRanges", spec := "leafRanges", unfollowed := true, recurses := true, apart := false, narrowed := true }
def LeafRangesUptoSaid : Prop := leafRangesUptoRow.holds Try.pinned (OpenSpec.upto leafRangesSpec)

/-- 'osierlaw13.LeafReads', WHERE WHAT IT READS IS OF BULK AT MOST 1048576: true; the input reads as it did. -/
def leafReadsUptoRow : OpenClaim := { program := "ytipcjkfecppanaa", sum := "a3301969f938bf9060b5ac74fbb10b80ec7f39f66346c16f569b3bbbba757a02", func := "osier/osierlaw13.LeafReads", spec := "leafReads", unfollowed := true, recurses := true, apart := false, narrowed := true }
def LeafReadsUptoSaid : Prop := leafReadsUptoRow.holds Try.pinned (OpenSpec.upto leafReadsSpec)

/-- 'osierlaw13.LeafEnds', WHERE WHAT IT READS IS OF BULK AT MOST 1048576: true; the input reads as it did. -/
def leafEndsUptoRow : OpenClaim := { program := "ytipcjkfecppanaa", sum := "a3301969f938bf9060b5ac74fbb10b80ec7f39f66346c16f569b3bbbba757a02", func := "osier/osierlaw13.LeafEnds", spec := "leafEnds", unfollowed := true, recurses := true, apart := false, narrowed := true }
def LeafEndsUptoSaid : Prop := leafEndsUptoRow.holds Try.pinned (OpenSpec.upto leafEndsSpec)

end Rows
end Go.Proofs.Ytipcjkfecppanaa
