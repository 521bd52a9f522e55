/-
  No cell of these rows narrows 'for every input' (looked for: loops, veiled, ifaces, maps, wideKeys, modest, calm, conditions, laid).
  DERIVED. THE GIVEN ROWS OF THIS SEAT. 4 by the template 'for every input the law returns true; each argument reads behind the call as it read before'; 0 by the template 'total and deterministic' (their statements: YtndlnekibfcjnaaTotals.lean).
  GIVEN WITH THE SEED: the statements are not yours to turn. If you find one false, say at which input.
  Laid BY PROGRAM, IN A SANDBOX (cutbox-rows.mjs): the forced cells as the released guide's own fill.sh prints them over the translation 44e57d6405b303b7… (all of the seat's roots in one cut). By AI agents, Wed Nov 11 2026. No macro, syntax, notation, axiom, sorry.
-/
import Derived.Test.YtndlnekibfcjnaaChecked
import GoSem.Claim
import GoSem.ClaimJoined
import GoSem.ClaimMapViews
import Derived.JoinedTies
import Derived.KernelRfl
namespace Go.Proofs.Ytndlnekibfcjnaa
/- THE CELL 'sum', in the pinned program and in every row, IS THE sha256 OF THE DUMP (.gsa) THAT YtndlnekibfcjnaaProg.lean LOADS. Nothing in Lean hashes anything: it is a label: what it is worth is what the hold of that sum in a sandbox is worth. -/
noncomputable def Try.pinned : Pinned := { name := "ytndlnekibfcjnaa", sum := "44e57d6405b303b771a447628aa7b0b50662dccc9a270fcaee17dedc5a02e051", checked := Try.checked }
namespace Rows
def none {H : Type} : Left H := { results := [], args := [] }

/-- 'osierlaw11.PolicyForms': WHATEVER THE INPUT: true; the input reads as it did. -/
def policyFormsSpec : ChangeSpec := { name := "policyForms", fn := fun _ => fun
  | [d] => { results := [.lit (.bool true)], args := [d] }
  | _ => none }
def policyFormsRow : OpenClaim := { program := "ytndlnekibfcjnaa", sum := "44e57d6405b303b771a447628aa7b0b50662dccc9a270fcaee17dedc5a02e051", func := "osier/osierlaw11.PolicyForms", spec := "policyForms", apart := false }
def PolicyFormsSaid : Prop := policyFormsRow.holds Try.pinned (OpenSpec.ofChange policyFormsSpec)

/-- ITS FALSE NEIGHBOUR: 'it returns false'. Refute it at one input. -/
def policyFormsWrong : ChangeSpec := { name := "policyForms", fn := fun _ => fun
  | [d] => { results := [.lit (.bool false)], args := [d] }
  | _ => none }
def PolicyFormsWrongFalsely : Prop := policyFormsRow.holds Try.pinned (OpenSpec.ofChange policyFormsWrong)

/-- 'osierlaw11.PolicyStays': WHATEVER THE INPUT: true; the input reads as it did. -/
def policyStaysSpec : ChangeSpec := { name := "policyStays", fn := fun _ => fun
  | [d1, d2] => { results := [.lit (.bool true)], args := [d1, d2] }
  | _ => none }
def policyStaysRow : OpenClaim := { program := "ytndlnekibfcjnaa", sum := "44e57d6405b303b771a447628aa7b0b50662dccc9a270fcaee17dedc5a02e051", func := "osier/osierlaw11.PolicyStays", spec := "policyStays", apart := false }
def PolicyStaysSaid : Prop := policyStaysRow.holds Try.pinned (OpenSpec.ofChange policyStaysSpec)

/-- ITS FALSE NEIGHBOUR: 'it returns false'. Refute it at one input. -/
def policyStaysWrong : ChangeSpec := { name := "policyStays", fn := fun _ => fun
  | [d1, d2] => { results := [.lit (.bool false)], args := [d1, d2] }
  | _ => none }
def PolicyStaysWrongFalsely : Prop := policyStaysRow.holds Try.pinned (OpenSpec.ofChange policyStaysWrong)

/-- 'osierlaw11.PolicyEach': WHATEVER THE INPUT: true; the input reads as it did. -/
def policyEachSpec : ChangeSpec := { name := "policyEach", fn := fun _ => fun
  | [d1, d2] => { results := [.lit (.bool true)], args := [d1, d2] }
  | _ => none }
def policyEachRow : OpenClaim := { program := "ytndlnekibfcjnaa", sum := "44e57d6405b303b771a447628aa7b0b50662dccc9a270fcaee17dedc5a02e051", func := "osier/osierlaw11.PolicyEach", spec := "policyEach", apart := false }
def PolicyEachSaid : Prop := policyEachRow.holds Try.pinned (OpenSpec.ofChange policyEachSpec)

/-- ITS FALSE NEIGHBOUR: 'it returns false'. Refute it at one input. -/
def policyEachWrong : ChangeSpec := { name := "policyEach", fn := fun _ => fun
  | [d1, d2] => { results := [.lit (.bool false)], args := [d1, d2] }
  | _ => none }
def PolicyEachWrongFalsely : Prop := policyEachRow.holds Try.pinned (OpenSpec.ofChange policyEachWrong)

/-- 'osierlaw11.PolicyEdges': WHATEVER THE INPUT: true; the input reads as it did. -/
def policyEdgesSpec : ChangeSpec := { name := "policyEdges", fn := fun _ => fun
  | [d1, d2] => { results := [.lit (.bool true)], args := [d1, d2] }
  | _ => none }
def policyEdgesRow : OpenClaim := { program := "ytndlnekibfcjnaa", sum := "44e57d6405b303b771a447628aa7b0b50662dccc9a270fcaee17dedc5a02e051", func := "osier/osierlaw11.PolicyEdges", spec := "policyEdges", apart := false }
def PolicyEdgesSaid : Prop := policyEdgesRow.holds Try.pinned (OpenSpec.ofChange policyEdgesSpec)

/-- ITS FALSE NEIGHBOUR: 'it returns false'. Refute it at one input. -/
def policyEdgesWrong : ChangeSpec := { name := "policyEdges", fn := fun _ => fun
  | [d1, d2] => { results := [.lit (.bool false)], args := [d1, d2] }
  | _ => none }
def PolicyEdgesWrongFalsely : Prop := policyEdgesRow.holds Try.pinned (OpenSpec.ofChange policyEdgesWrong)

/- THE SECOND FORM. 'bulk': how many values and letters a reading holds, each counted each time it is reached (what is shared counts as often as it is met; a slice's spare places count too). A statement '..UptoSaid' is the law's where the arguments, and the package variables that the reading takes, are together of bulk at most 1048576: NARROWER than '..Said'. Prove '..Said' where nothing that the law and all that it calls make is longer than what came in: it says more and counts as full. Else prove '..UptoSaid'. A law counts once. -/
mutual
def uptoBulk {H : Type} : DataW H → Nat
  | .lit (.string bytes) => bytes.length + 1
  | .lit _ => 1
  | .nil => 1
  | .ptr d => uptoBulk d + 1
  | .slice elems spare => uptoBulkAll elems + uptoBulkAll spare + 1
  | .agg parts => uptoBulkAll parts + 1
  | .iface _ d => uptoBulk d + 1
  | .map entries => uptoBulkEntries entries + 1
  | .held _ => 1
def uptoBulkAll {H : Type} : List (DataW H) → Nat
  | [] => 0
  | d :: r => uptoBulk d + uptoBulkAll r
def uptoBulkEntries {H : Type} : List (Lit × DataW H) → Nat
  | [] => 0
  | x :: r => uptoBulkEntry x + uptoBulkEntries r
def uptoBulkEntry {H : Type} : Lit × DataW H → Nat
  | (.string bytes, d) => bytes.length + uptoBulk d + 1
  | (_, d) => uptoBulk d + 1
 end
def uptoSmall : (H : Type) → List (DataW H) → Bool := fun _ ds => decide (uptoBulkAll ds ≤ 1048576)
def OpenSpec.upto (s : _root_.Go.ChangeSpec) : _root_.Go.OpenSpec := { _root_.Go.OpenSpec.ofChange s with cond := some uptoSmall }

/-- 'osierlaw11.PolicyForms', WHERE WHAT IT READS IS OF BULK AT MOST 1048576: true; the input reads as it did. -/
def policyFormsUptoRow : OpenClaim := { program := "ytndlnekibfcjnaa", sum := "44e57d6405b303b771a447628aa7b0b50662dccc9a270fcaee17dedc5a02e051", func := "osier/osierlaw11.PolicyForms", spec := "policyForms", apart := false, narrowed := true }
def PolicyFormsUptoSaid : Prop := policyFormsUptoRow.holds Try.pinned (OpenSpec.upto policyFormsSpec)

/-- 'osierlaw11.PolicyStays', WHERE WHAT IT READS IS OF BULK AT MOST 1048576: true; the input reads as it did. -/
def policyStaysUptoRow : OpenClaim := { program := "ytndlnekibfcjnaa", sum := "44e57d6405b303b771a447628aa7b0b50662dccc9a270fcaee17dedc5a02e051", func := "osier/osierlaw11.PolicyStays", spec := "policyStays", apart := false, narrowed := true }
def PolicyStaysUptoSaid : Prop := policyStaysUptoRow.holds Try.pinned (OpenSpec.upto policyStaysSpec)

/-- 'osierlaw11.PolicyEach', WHERE WHAT IT READS IS OF BULK AT MOST 1048576: true; the input reads as it did. -/
def policyEachUptoRow : OpenClaim := { program := "ytndlnekibfcjnaa", sum := "44e57d6405b303b771a447628aa7b0b50662dccc9a270fcaee17dedc5a02e051", func := "osier/osierlaw11.PolicyEach", spec := "policyEach", apart := false, narrowed := true }
def PolicyEachUptoSaid : Prop := policyEachUptoRow.holds Try.pinned (OpenSpec.upto policyEachSpec)

/-- 'osierlaw11.PolicyEdges', WHERE WHAT IT READS IS OF BULK AT MOST 1048576: true; the input reads as it did. -/
def policyEdgesUptoRow : OpenClaim := { program := "ytndlnekibfcjnaa", sum := "44e57d6405b303b771a447628aa7b0b50662dccc9a270fcaee17dedc5a02e051", func := "osier/osierlaw11.PolicyEdges", spec := "policyEdges", apart := false, narrowed := true }
def PolicyEdgesUptoSaid : Prop := policyEdgesUptoRow.holds Try.pinned (OpenSpec.upto policyEdgesSpec)

end Rows
end Go.Proofs.Ytndlnekibfcjnaa
