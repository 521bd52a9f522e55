/-
  No cell of these rows narrows 'for every input' (looked for: loops, veiled, ifaces, maps, wideKeys, modest, calm, conditions, laid).
  DERIVED. THE GIVEN ROWS OF THIS SEAT. 5 by the template 'for every input the law returns true; each argument reads behind the call as it read before'; 0 by the template 'total and deterministic' (their statements: YtbaeemonkgllhaaTotals.lean).
  GIVEN WITH THE SEED: the statements are not yours to turn. If you find one false, say at which input.
  Laid BY PROGRAM, IN A SANDBOX (cutbox-rows.mjs): the forced cells as the released guide's own fill.sh prints them over the translation c854ad02d4b18fa4… (all of the seat's roots in one cut). By AI agents, Wed Nov 11 2026. No macro, syntax, notation, axiom, sorry.
-/
import Derived.Test.YtbaeemonkgllhaaChecked
import GoSem.Claim
import GoSem.ClaimJoined
import GoSem.ClaimMapViews
import Derived.JoinedTies
import Derived.KernelRfl
namespace Go.Proofs.Ytbaeemonkgllhaa
/- THE CELL 'sum', in the pinned program and in every row, IS THE sha256 OF THE DUMP (.gsa) THAT YtbaeemonkgllhaaProg.lean LOADS. Nothing in Lean hashes anything: it is a label: what it is worth is what the hold of that sum in a sandbox is worth. -/
noncomputable def Try.pinned : Pinned := { name := "ytbaeemonkgllhaa", sum := "c854ad02d4b18fa42b10cec8e15d7993afd0fa83ba7502a4ef620b9000682693", checked := Try.checked }
namespace Rows
def none {H : Type} : Left H := { results := [], args := [] }

/-- 'osierlaw9.WalkForms': WHATEVER THE INPUT: true; the input reads as it did. -/
def walkFormsSpec : ChangeSpec := { name := "walkForms", fn := fun _ => fun
  | [d1, d2, d3] => { results := [.lit (.bool true)], args := [d1, d2, d3] }
  | _ => none }
def walkFormsRow : OpenClaim := { program := "ytbaeemonkgllhaa", sum := "c854ad02d4b18fa42b10cec8e15d7993afd0fa83ba7502a4ef620b9000682693", func := "osier/osierlaw9.WalkForms", spec := "walkForms", unfollowed := true, recurses := true, apart := false }
def WalkFormsSaid : Prop := walkFormsRow.holds Try.pinned (OpenSpec.ofChange walkFormsSpec)

/-- ITS FALSE NEIGHBOUR: 'it returns false'. Refute it at one input. -/
def walkFormsWrong : ChangeSpec := { name := "walkForms", fn := fun _ => fun
  | [d1, d2, d3] => { results := [.lit (.bool false)], args := [d1, d2, d3] }
  | _ => none }
def WalkFormsWrongFalsely : Prop := walkFormsRow.holds Try.pinned (OpenSpec.ofChange walkFormsWrong)

/-- 'osierlaw9.WalkSteps': WHATEVER THE INPUT: true; the input reads as it did. -/
def walkStepsSpec : ChangeSpec := { name := "walkSteps", fn := fun _ => fun
  | [d] => { results := [.lit (.bool true)], args := [d] }
  | _ => none }
def walkStepsRow : OpenClaim := { program := "ytbaeemonkgllhaa", sum := "c854ad02d4b18fa42b10cec8e15d7993afd0fa83ba7502a4ef620b9000682693", func := "osier/osierlaw9.WalkSteps", spec := "walkSteps", unfollowed := true, recurses := true, apart := false }
def WalkStepsSaid : Prop := walkStepsRow.holds Try.pinned (OpenSpec.ofChange walkStepsSpec)

/-- ITS FALSE NEIGHBOUR: 'it returns false'. Refute it at one input. -/
def walkStepsWrong : ChangeSpec := { name := "walkSteps", fn := fun _ => fun
  | [d] => { results := [.lit (.bool false)], args := [d] }
  | _ => none }
def WalkStepsWrongFalsely : Prop := walkStepsRow.holds Try.pinned (OpenSpec.ofChange walkStepsWrong)

/-- 'osierlaw9.WalkParts': WHATEVER THE INPUT: true; the input reads as it did. -/
def walkPartsSpec : ChangeSpec := { name := "walkParts", fn := fun _ => fun
  | [d1, d2, d3, d4] => { results := [.lit (.bool true)], args := [d1, d2, d3, d4] }
  | _ => none }
def walkPartsRow : OpenClaim := { program := "ytbaeemonkgllhaa", sum := "c854ad02d4b18fa42b10cec8e15d7993afd0fa83ba7502a4ef620b9000682693", func := "osier/osierlaw9.WalkParts", spec := "walkParts", unfollowed := true, recurses := true, apart := false }
def WalkPartsSaid : Prop := walkPartsRow.holds Try.pinned (OpenSpec.ofChange walkPartsSpec)

/-- ITS FALSE NEIGHBOUR: 'it returns false'. Refute it at one input. -/
def walkPartsWrong : ChangeSpec := { name := "walkParts", fn := fun _ => fun
  | [d1, d2, d3, d4] => { results := [.lit (.bool false)], args := [d1, d2, d3, d4] }
  | _ => none }
def WalkPartsWrongFalsely : Prop := walkPartsRow.holds Try.pinned (OpenSpec.ofChange walkPartsWrong)

/-- 'osierlaw9.WalkOne': WHATEVER THE INPUT: true; the input reads as it did. -/
def walkOneSpec : ChangeSpec := { name := "walkOne", fn := fun _ => fun
  | [d1, d2] => { results := [.lit (.bool true)], args := [d1, d2] }
  | _ => none }
def walkOneRow : OpenClaim := { program := "ytbaeemonkgllhaa", sum := "c854ad02d4b18fa42b10cec8e15d7993afd0fa83ba7502a4ef620b9000682693", func := "osier/osierlaw9.WalkOne", spec := "walkOne", unfollowed := true, recurses := true, apart := false }
def WalkOneSaid : Prop := walkOneRow.holds Try.pinned (OpenSpec.ofChange walkOneSpec)

/-- ITS FALSE NEIGHBOUR: 'it returns false'. Refute it at one input. -/
def walkOneWrong : ChangeSpec := { name := "walkOne", fn := fun _ => fun
  | [d1, d2] => { results := [.lit (.bool false)], args := [d1, d2] }
  | _ => none }
def WalkOneWrongFalsely : Prop := walkOneRow.holds Try.pinned (OpenSpec.ofChange walkOneWrong)

/-- 'osierlaw9.WalkLooks': WHATEVER THE INPUT: true; the input reads as it did. -/
def walkLooksSpec : ChangeSpec := { name := "walkLooks", fn := fun _ => fun
  | [d1, d2, d3] => { results := [.lit (.bool true)], args := [d1, d2, d3] }
  | _ => none }
def walkLooksRow : OpenClaim := { program := "ytbaeemonkgllhaa", sum := "c854ad02d4b18fa42b10cec8e15d7993afd0fa83ba7502a4ef620b9000682693", func := "osier/osierlaw9.WalkLooks", spec := "walkLooks", unfollowed := true, recurses := true, apart := false }
def WalkLooksSaid : Prop := walkLooksRow.holds Try.pinned (OpenSpec.ofChange walkLooksSpec)

/-- ITS FALSE NEIGHBOUR: 'it returns false'. Refute it at one input. -/
def walkLooksWrong : ChangeSpec := { name := "walkLooks", fn := fun _ => fun
  | [d1, d2, d3] => { results := [.lit (.bool false)], args := [d1, d2, d3] }
  | _ => none }
def WalkLooksWrongFalsely : Prop := walkLooksRow.holds Try.pinned (OpenSpec.ofChange walkLooksWrong)

/- THE SECOND FORM. 'bulk': how many values and letters a reading holds, each counted each time it is reached (what is shared counts as often as it is met; a slice's spare places count too). A statement '..UptoSaid' is the law's where the arguments, and the package variables that the reading takes, are together of bulk at most 1048576: NARROWER than '..Said'. Prove '..Said' where nothing that the law and all that it calls make is longer than what came in: it says more and counts as full. Else prove '..UptoSaid'. A law counts once. -/
mutual
def uptoBulk {H : Type} : DataW H → Nat
  | .lit (.string bytes) => bytes.length + 1
  | .lit _ => 1
  | .nil => 1
  | .ptr d => uptoBulk d + 1
  | .slice elems spare => uptoBulkAll elems + uptoBulkAll spare + 1
  | .agg parts => uptoBulkAll parts + 1
  | .iface _ d => uptoBulk d + 1
  | .map entries => uptoBulkEntries entries + 1
  | .held _ => 1
def uptoBulkAll {H : Type} : List (DataW H) → Nat
  | [] => 0
  | d :: r => uptoBulk d + uptoBulkAll r
def uptoBulkEntries {H : Type} : List (Lit × DataW H) → Nat
  | [] => 0
  | x :: r => uptoBulkEntry x + uptoBulkEntries r
def uptoBulkEntry {H : Type} : Lit × DataW H → Nat
  | (.string bytes, d) => bytes.length + uptoBulk d + 1
  | (_, d) => uptoBulk d + 1
 end
def uptoSmall : (H : Type) → List (DataW H) → Bool := fun _ ds => decide (uptoBulkAll ds ≤ 1048576)
def OpenSpec.upto (s : _root_.Go.ChangeSpec) : _root_.Go.OpenSpec := { _root_.Go.OpenSpec.ofChange s with cond := some uptoSmall }

/-- 'osierlaw9.WalkForms', WHERE WHAT IT READS IS OF BULK AT MOST 1048576: true; the input reads as it did. -/
def walkFormsUptoRow : OpenClaim := { program := "ytbaeemonkgllhaa", sum := "c854ad02d4b18fa42b10cec8e15d7993afd0fa83ba7502a4ef620b9000682693", func := "osier/osierlaw9.WalkForms", spec := "walkForms", unfollowed := true, recurses := true, apart := false, narrowed := true }
def WalkFormsUptoSaid : Prop := walkFormsUptoRow.holds Try.pinned (OpenSpec.upto walkFormsSpec)

/-- 'osierlaw9.WalkSteps', WHERE WHAT IT READS IS OF BULK AT MOST 1048576: true; the input reads as it did. -/
def walkStepsUptoRow : OpenClaim := { program := "ytbaeemonkgllhaa", sum := "c854ad02d4b18fa42b10cec8e15d7993afd0fa83ba7502a4ef620b9000682693", func := "osier/osierlaw9.WalkSteps", spec := "walkSteps", unfollowed := true, recurses := true, apart := false, narrowed := true }
def WalkStepsUptoSaid : Prop := walkStepsUptoRow.holds Try.pinned (OpenSpec.upto walkStepsSpec)

/-- 'osierlaw9.WalkParts', WHERE WHAT IT READS IS OF BULK AT MOST 1048576: true; the input reads as it did. -/
def walkPartsUptoRow : OpenClaim := { program := "ytbaeemonkgllhaa", sum := "c854ad02d4b18fa42b10cec8e15d7993afd0fa83ba7502a4ef620b9000682693", func := "osier/osierlaw9.WalkParts", spec := "walkParts", unfollowed := true, recurses := true, apart := false, narrowed := true }
def WalkPartsUptoSaid : Prop := walkPartsUptoRow.holds Try.pinned (OpenSpec.upto walkPartsSpec)

/-- 'osierlaw9.WalkOne', WHERE WHAT IT READS IS OF BULK AT MOST 1048576: true; the input reads as it did. -/
def walkOneUptoRow : OpenClaim := { program := "ytbaeemonkgllhaa", sum := "c854ad02d4b18fa42b10cec8e15d7993afd0fa83ba7502a4ef620b9000682693", func := "osier/osierlaw9.WalkOne", spec := "walkOne", unfollowed := true, recurses := true, apart := false, narrowed := true }
def WalkOneUptoSaid : Prop := walkOneUptoRow.holds Try.pinned (OpenSpec.upto walkOneSpec)

/-- 'osierlaw9.WalkLooks', WHERE WHAT IT READS IS OF BULK AT MOST 1048576: true; the input reads as it did. -/
def walkLooksUptoRow : OpenClaim := { program := "ytbaeemonkgllhaa", sum := "c854ad02d4b18fa42b10cec8e15d7993afd0fa83ba7502a4ef620b9000682693", func := "osier/osierlaw9.WalkLooks", spec := "walkLooks", unfollowed := true, recurses := true, apart := false, narrowed := true }
def WalkLooksUptoSaid : Prop := walkLooksUptoRow.holds Try.pinned (OpenSpec.upto walkLooksSpec)

end Rows
end Go.Proofs.Ytbaeemonkgllhaa
