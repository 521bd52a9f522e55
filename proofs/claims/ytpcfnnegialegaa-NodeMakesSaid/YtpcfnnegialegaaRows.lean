/-
  No cell of these rows narrows 'for every input' (looked for: loops, veiled, ifaces, maps, wideKeys, modest, calm, conditions, laid).
  DERIVED. THE GIVEN ROWS OF THIS SEAT. 5 by the template 'for every input the law returns true; each argument reads behind the call as it read before'; 0 by the template 'total and deterministic' (their statements: YtpcfnnegialegaaTotals.lean).
  GIVEN WITH THE SEED: the statements are not yours to turn. If you find one false, say at which input.
  Laid BY PROGRAM, IN A SANDBOX (cutbox-rows.mjs): the forced cells as the released guide's own fill.sh prints them over the translation b44ae136f7eeb3b1… (all of the seat's roots in one cut). By AI agents, Wed Nov 11 2026. No macro, syntax, notation, axiom, sorry.
-/
import Derived.Test.YtpcfnnegialegaaChecked
import GoSem.Claim
import GoSem.ClaimJoined
import GoSem.ClaimMapViews
import Derived.JoinedTies
import Derived.KernelRfl
namespace Go.Proofs.Ytpcfnnegialegaa
/- THE CELL 'sum', in the pinned program and in every row, IS THE sha256 OF THE DUMP (.gsa) THAT YtpcfnnegialegaaProg.lean LOADS. Nothing in Lean hashes anything: it is a label: what it is worth is what the hold of that sum in a sandbox is worth. -/
noncomputable def Try.pinned : Pinned := { name := "ytpcfnnegialegaa", sum := "b44ae136f7eeb3b15f753961f9fe22c6a5ff478c4a515f7b33610798f74a95a2", checked := Try.checked }
namespace Rows
def none {H : Type} : Left H := { results := [], args := [] }

/-- 'osierlaw3.NodeMakes': WHATEVER THE INPUT: true; the input reads as it did. -/
def nodeMakesSpec : ChangeSpec := { name := "nodeMakes", fn := fun _ => fun
  | [d1, d2] => { results := [.lit (.bool true)], args := [d1, d2] }
  | _ => none }
def nodeMakesRow : OpenClaim := { program := "ytpcfnnegialegaa", sum := "b44ae136f7eeb3b15f753961f9fe22c6a5ff478c4a515f7b33610798f74a95a2", func := "osier/osierlaw3.NodeMakes", spec := "nodeMakes", apart := false }
def NodeMakesSaid : Prop := nodeMakesRow.holds Try.pinned (OpenSpec.ofChange nodeMakesSpec)

/-- ITS FALSE NEIGHBOUR: 'it returns false'. Refute it at one input. -/
def nodeMakesWrong : ChangeSpec := { name := "nodeMakes", fn := fun _ => fun
  | [d1, d2] => { results := [.lit (.bool false)], args := [d1, d2] }
  | _ => none }
def NodeMakesWrongFalsely : Prop := nodeMakesRow.holds Try.pinned (OpenSpec.ofChange nodeMakesWrong)

/-- 'osierlaw3.NodeRaw': WHATEVER THE INPUT: true; the input reads as it did. -/
def nodeRawSpec : ChangeSpec := { name := "nodeRaw", fn := fun _ => fun
  | [d1, d2, d3, d4] => { results := [.lit (.bool true)], args := [d1, d2, d3, d4] }
  | _ => none }
def nodeRawRow : OpenClaim := { program := "ytpcfnnegialegaa", sum := "b44ae136f7eeb3b15f753961f9fe22c6a5ff478c4a515f7b33610798f74a95a2", func := "osier/osierlaw3.NodeRaw", spec := "nodeRaw", apart := false }
def NodeRawSaid : Prop := nodeRawRow.holds Try.pinned (OpenSpec.ofChange nodeRawSpec)

/-- ITS FALSE NEIGHBOUR: 'it returns false'. Refute it at one input. -/
def nodeRawWrong : ChangeSpec := { name := "nodeRaw", fn := fun _ => fun
  | [d1, d2, d3, d4] => { results := [.lit (.bool false)], args := [d1, d2, d3, d4] }
  | _ => none }
def NodeRawWrongFalsely : Prop := nodeRawRow.holds Try.pinned (OpenSpec.ofChange nodeRawWrong)

/-- 'osierlaw3.NodeLaid': WHATEVER THE INPUT: true; the input reads as it did. -/
def nodeLaidSpec : ChangeSpec := { name := "nodeLaid", fn := fun _ => fun
  | [d] => { results := [.lit (.bool true)], args := [d] }
  | _ => none }
def nodeLaidRow : OpenClaim := { program := "ytpcfnnegialegaa", sum := "b44ae136f7eeb3b15f753961f9fe22c6a5ff478c4a515f7b33610798f74a95a2", func := "osier/osierlaw3.NodeLaid", spec := "nodeLaid", recurses := true, apart := false }
def NodeLaidSaid : Prop := nodeLaidRow.holds Try.pinned (OpenSpec.ofChange nodeLaidSpec)

/-- ITS FALSE NEIGHBOUR: 'it returns false'. Refute it at one input. -/
def nodeLaidWrong : ChangeSpec := { name := "nodeLaid", fn := fun _ => fun
  | [d] => { results := [.lit (.bool false)], args := [d] }
  | _ => none }
def NodeLaidWrongFalsely : Prop := nodeLaidRow.holds Try.pinned (OpenSpec.ofChange nodeLaidWrong)

/-- 'osierlaw3.NodeSums': WHATEVER THE INPUT: true; the input reads as it did. -/
def nodeSumsSpec : ChangeSpec := { name := "nodeSums", fn := fun _ => fun
  | [d] => { results := [.lit (.bool true)], args := [d] }
  | _ => none }
def nodeSumsRow : OpenClaim := { program := "ytpcfnnegialegaa", sum := "b44ae136f7eeb3b15f753961f9fe22c6a5ff478c4a515f7b33610798f74a95a2", func := "osier/osierlaw3.NodeSums", spec := "nodeSums", recurses := true, apart := false }
def NodeSumsSaid : Prop := nodeSumsRow.holds Try.pinned (OpenSpec.ofChange nodeSumsSpec)

/-- ITS FALSE NEIGHBOUR: 'it returns false'. Refute it at one input. -/
def nodeSumsWrong : ChangeSpec := { name := "nodeSums", fn := fun _ => fun
  | [d] => { results := [.lit (.bool false)], args := [d] }
  | _ => none }
def NodeSumsWrongFalsely : Prop := nodeSumsRow.holds Try.pinned (OpenSpec.ofChange nodeSumsWrong)

/-- 'osierlaw3.NodeEmbeds': WHATEVER THE INPUT: true; the input reads as it did. -/
def nodeEmbedsSpec : ChangeSpec := { name := "nodeEmbeds", fn := fun _ => fun
  | [d1, d2, d3, d4] => { results := [.lit (.bool true)], args := [d1, d2, d3, d4] }
  | _ => none }
def nodeEmbedsRow : OpenClaim := { program := "ytpcfnnegialegaa", sum := "b44ae136f7eeb3b15f753961f9fe22c6a5ff478c4a515f7b33610798f74a95a2", func := "osier/osierlaw3.NodeEmbeds", spec := "nodeEmbeds", apart := false }
def NodeEmbedsSaid : Prop := nodeEmbedsRow.holds Try.pinned (OpenSpec.ofChange nodeEmbedsSpec)

/-- ITS FALSE NEIGHBOUR: 'it returns false'. Refute it at one input. -/
def nodeEmbedsWrong : ChangeSpec := { name := "nodeEmbeds", fn := fun _ => fun
  | [d1, d2, d3, d4] => { results := [.lit (.bool false)], args := [d1, d2, d3, d4] }
  | _ => none }
def NodeEmbedsWrongFalsely : Prop := nodeEmbedsRow.holds Try.pinned (OpenSpec.ofChange nodeEmbedsWrong)

/- THE SECOND FORM. 'bulk': how many values and letters a reading holds, each counted each time it is reached (what is shared counts as often as it is met; a slice's spare places count too). A statement '..UptoSaid' is the law's where the arguments, and the package variables that the reading takes, are together of bulk at most 1048576: NARROWER than '..Said'. Prove '..Said' where nothing that the law and all that it calls make is longer than what came in: it says more and counts as full. Else prove '..UptoSaid'. A law counts once. -/
mutual
def uptoBulk {H : Type} : DataW H → Nat
  | .lit (.string bytes) => bytes.length + 1
  | .lit _ => 1
  | .nil => 1
  | .ptr d => uptoBulk d + 1
  | .slice elems spare => uptoBulkAll elems + uptoBulkAll spare + 1
  | .agg parts => uptoBulkAll parts + 1
  | .iface _ d => uptoBulk d + 1
  | .map entries => uptoBulkEntries entries + 1
  | .held _ => 1
def uptoBulkAll {H : Type} : List (DataW H) → Nat
  | [] => 0
  | d :: r => uptoBulk d + uptoBulkAll r
def uptoBulkEntries {H : Type} : List (Lit × DataW H) → Nat
  | [] => 0
  | x :: r => uptoBulkEntry x + uptoBulkEntries r
def uptoBulkEntry {H : Type} : Lit × DataW H → Nat
  | (.string bytes, d) => bytes.length + uptoBulk d + 1
  | (_, d) => uptoBulk d + 1
 end
def uptoSmall : (H : Type) → List (DataW H) → Bool := fun _ ds => decide (uptoBulkAll ds ≤ 1048576)
def OpenSpec.upto (s : _root_.Go.ChangeSpec) : _root_.Go.OpenSpec := { _root_.Go.OpenSpec.ofChange s with cond := some uptoSmall }

/-- 'osierlaw3.NodeMakes', WHERE WHAT IT READS IS OF BULK AT MOST 1048576: true; the input reads as it did. -/
def nodeMakesUptoRow : OpenClaim := { program := "ytpcfnnegialegaa", sum := "b44ae136f7eeb3b15f753961f9fe22c6a5ff478c4a515f7b33610798f74a95a2", func := "osier/osierlaw3.NodeMakes", spec := "nodeMakes", apart := false, narrowed := true }
def NodeMakesUptoSaid : Prop := nodeMakesUptoRow.holds Try.pinned (OpenSpec.upto nodeMakesSpec)

/-- 'osierlaw3.NodeRaw', WHERE WHAT IT READS IS OF BULK AT MOST 1048576: true; the input reads as it did. -/
def nodeRawUptoRow : OpenClaim := { program := "ytpcfnnegialegaa", sum := "b44ae136f7eeb3b15f753961f9fe22c6a5ff478c4a515f7b33610798f74a95a2", func := "osier/osierlaw3.NodeRaw", spec := "nodeRaw", apart := false, narrowed := true }
def NodeRawUptoSaid : Prop := nodeRawUptoRow.holds Try.pinned (OpenSpec.upto nodeRawSpec)

/-- 'osierlaw3.NodeLaid', WHERE WHAT IT READS IS OF BULK AT MOST 1048576: true; the input reads as it did. -/
def nodeLaidUptoRow : OpenClaim := { program := "ytpcfnnegialegaa", sum := "b44ae136f7eeb3b15f753961f9fe22c6a5ff478c4a515f7b33610798f74a95a2", func := "osier/osierlaw3.NodeLaid", spec := "nodeLaid", recurses := true, apart := false, narrowed := true }
def NodeLaidUptoSaid : Prop := nodeLaidUptoRow.holds Try.pinned (OpenSpec.upto nodeLaidSpec)

/-- 'osierlaw3.NodeSums', WHERE WHAT IT READS IS OF BULK AT MOST 1048576: true; the input reads as it did. -/
def nodeSumsUptoRow : OpenClaim := { program := "ytpcfnnegialegaa", sum := "b44ae136f7eeb3b15f753961f9fe22c6a5ff478c4a515f7b33610798f74a95a2", func := "osier/osierlaw3.NodeSums", spec := "nodeSums", recurses := true, apart := false, narrowed := true }
def NodeSumsUptoSaid : Prop := nodeSumsUptoRow.holds Try.pinned (OpenSpec.upto nodeSumsSpec)

/-- 'osierlaw3.NodeEmbeds', WHERE WHAT IT READS IS OF BULK AT MOST 1048576: true; the input reads as it did. -/
def nodeEmbedsUptoRow : OpenClaim := { program := "ytpcfnnegialegaa", sum := "b44ae136f7eeb3b15f753961f9fe22c6a5ff478c4a515f7b33610798f74a95a2", func := "osier/osierlaw3.NodeEmbeds", spec := "nodeEmbeds", apart := false, narrowed := true }
def NodeEmbedsUptoSaid : Prop := nodeEmbedsUptoRow.holds Try.pinned (OpenSpec.upto nodeEmbedsSpec)

end Rows
end Go.Proofs.Ytpcfnnegialegaa
