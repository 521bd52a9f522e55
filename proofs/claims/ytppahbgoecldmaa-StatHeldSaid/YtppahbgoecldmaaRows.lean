/-
  No cell of these rows narrows 'for every input' (looked for: loops, veiled, ifaces, maps, wideKeys, modest, calm, conditions, laid).
  DERIVED. THE GIVEN ROWS OF THIS SEAT. 5 by the template 'for every input the law returns true; each argument reads behind the call as it read before'; 0 by the template 'total and deterministic' (their statements: YtppahbgoecldmaaTotals.lean).
  GIVEN WITH THE SEED: the statements are not yours to turn. If you find one false, say at which input.
  Laid BY PROGRAM, IN A SANDBOX (cutbox-rows.mjs): the forced cells as the released guide's own fill.sh prints them over the translation cdc2aa0a2e19f69e… (all of the seat's roots in one cut). By AI agents, Wed Nov 11 2026. No macro, syntax, notation, axiom, sorry.
-/
import Derived.Test.YtppahbgoecldmaaChecked
import GoSem.Claim
import GoSem.ClaimJoined
import GoSem.ClaimMapViews
import Derived.JoinedTies
import Derived.KernelRfl
namespace Go.Proofs.Ytppahbgoecldmaa
/- THE CELL 'sum', in the pinned program and in every row, IS THE sha256 OF THE DUMP (.gsa) THAT YtppahbgoecldmaaProg.lean LOADS. Nothing in Lean hashes anything: it is a label: what it is worth is what the hold of that sum in a sandbox is worth. -/
noncomputable def Try.pinned : Pinned := { name := "ytppahbgoecldmaa", sum := "cdc2aa0a2e19f69e85ab2b4a32b429e2ebfccb050b1707a509ae7fea1f4835a9", checked := Try.checked }
namespace Rows
def none {H : Type} : Left H := { results := [], args := [] }

/-- 'osierlaw12.StatForms': WHATEVER THE INPUT: true; the input reads as it did. -/
def statFormsSpec : ChangeSpec := { name := "statForms", fn := fun _ => fun
  | [d1, d2, d3, d4] => { results := [.lit (.bool true)], args := [d1, d2, d3, d4] }
  | _ => none }
def statFormsRow : OpenClaim := { program := "ytppahbgoecldmaa", sum := "cdc2aa0a2e19f69e85ab2b4a32b429e2ebfccb050b1707a509ae7fea1f4835a9", func := "osier/osierlaw12.StatForms", spec := "statForms", apart := false }
def StatFormsSaid : Prop := statFormsRow.holds Try.pinned (OpenSpec.ofChange statFormsSpec)

/-- ITS FALSE NEIGHBOUR: 'it returns false'. Refute it at one input. -/
def statFormsWrong : ChangeSpec := { name := "statForms", fn := fun _ => fun
  | [d1, d2, d3, d4] => { results := [.lit (.bool false)], args := [d1, d2, d3, d4] }
  | _ => none }
def StatFormsWrongFalsely : Prop := statFormsRow.holds Try.pinned (OpenSpec.ofChange statFormsWrong)

/-- 'osierlaw12.StatOff': WHATEVER THE INPUT: true; the input reads as it did. -/
def statOffSpec : ChangeSpec := { name := "statOff", fn := fun _ => fun
  | [d1, d2, d3] => { results := [.lit (.bool true)], args := [d1, d2, d3] }
  | _ => none }
def statOffRow : OpenClaim := { program := "ytppahbgoecldmaa", sum := "cdc2aa0a2e19f69e85ab2b4a32b429e2ebfccb050b1707a509ae7fea1f4835a9", func := "osier/osierlaw12.StatOff", spec := "statOff", apart := false }
def StatOffSaid : Prop := statOffRow.holds Try.pinned (OpenSpec.ofChange statOffSpec)

/-- ITS FALSE NEIGHBOUR: 'it returns false'. Refute it at one input. -/
def statOffWrong : ChangeSpec := { name := "statOff", fn := fun _ => fun
  | [d1, d2, d3] => { results := [.lit (.bool false)], args := [d1, d2, d3] }
  | _ => none }
def StatOffWrongFalsely : Prop := statOffRow.holds Try.pinned (OpenSpec.ofChange statOffWrong)

/-- 'osierlaw12.StatRises': WHATEVER THE INPUT: true; the input reads as it did. -/
def statRisesSpec : ChangeSpec := { name := "statRises", fn := fun _ => fun
  | [d1, d2, d3, d4] => { results := [.lit (.bool true)], args := [d1, d2, d3, d4] }
  | _ => none }
def statRisesRow : OpenClaim := { program := "ytppahbgoecldmaa", sum := "cdc2aa0a2e19f69e85ab2b4a32b429e2ebfccb050b1707a509ae7fea1f4835a9", func := "osier/osierlaw12.StatRises", spec := "statRises", apart := false }
def StatRisesSaid : Prop := statRisesRow.holds Try.pinned (OpenSpec.ofChange statRisesSpec)

/-- ITS FALSE NEIGHBOUR: 'it returns false'. Refute it at one input. -/
def statRisesWrong : ChangeSpec := { name := "statRises", fn := fun _ => fun
  | [d1, d2, d3, d4] => { results := [.lit (.bool false)], args := [d1, d2, d3, d4] }
  | _ => none }
def StatRisesWrongFalsely : Prop := statRisesRow.holds Try.pinned (OpenSpec.ofChange statRisesWrong)

/-- 'osierlaw12.StatHeld': WHATEVER THE INPUT: true; the input reads as it did. -/
def statHeldSpec : ChangeSpec := { name := "statHeld", fn := fun _ => fun
  | [d1, d2] => { results := [.lit (.bool true)], args := [d1, d2] }
  | _ => none }
def statHeldRow : OpenClaim := { program := "ytppahbgoecldmaa", sum := "cdc2aa0a2e19f69e85ab2b4a32b429e2ebfccb050b1707a509ae7fea1f4835a9", func := "osier/osierlaw12.StatHeld", spec := "statHeld", apart := false }
def StatHeldSaid : Prop := statHeldRow.holds Try.pinned (OpenSpec.ofChange statHeldSpec)

/-- ITS FALSE NEIGHBOUR: 'it returns false'. Refute it at one input. -/
def statHeldWrong : ChangeSpec := { name := "statHeld", fn := fun _ => fun
  | [d1, d2] => { results := [.lit (.bool false)], args := [d1, d2] }
  | _ => none }
def StatHeldWrongFalsely : Prop := statHeldRow.holds Try.pinned (OpenSpec.ofChange statHeldWrong)

/-- 'osierlaw12.StatParts': WHATEVER THE INPUT: true; the input reads as it did. -/
def statPartsSpec : ChangeSpec := { name := "statParts", fn := fun _ => fun
  | [d1, d2, d3, d4] => { results := [.lit (.bool true)], args := [d1, d2, d3, d4] }
  | _ => none }
def statPartsRow : OpenClaim := { program := "ytppahbgoecldmaa", sum := "cdc2aa0a2e19f69e85ab2b4a32b429e2ebfccb050b1707a509ae7fea1f4835a9", func := "osier/osierlaw12.StatParts", spec := "statParts", apart := false }
def StatPartsSaid : Prop := statPartsRow.holds Try.pinned (OpenSpec.ofChange statPartsSpec)

/-- ITS FALSE NEIGHBOUR: 'it returns false'. Refute it at one input. -/
def statPartsWrong : ChangeSpec := { name := "statParts", fn := fun _ => fun
  | [d1, d2, d3, d4] => { results := [.lit (.bool false)], args := [d1, d2, d3, d4] }
  | _ => none }
def StatPartsWrongFalsely : Prop := statPartsRow.holds Try.pinned (OpenSpec.ofChange statPartsWrong)

/- THE SECOND FORM. 'bulk': how many values and letters a reading holds, each counted each time it is reached (what is shared counts as often as it is met; a slice's spare places count too). A statement '..UptoSaid' is the law's where the arguments, and the package variables that the reading takes, are together of bulk at most 1048576: NARROWER than '..Said'. Prove '..Said' where nothing that the law and all that it calls make is longer than what came in: it says more and counts as full. Else prove '..UptoSaid'. A law counts once. -/
mutual
def uptoBulk {H : Type} : DataW H → Nat
  | .lit (.string bytes) => bytes.length + 1
  | .lit _ => 1
  | .nil => 1
  | .ptr d => uptoBulk d + 1
  | .slice elems spare => uptoBulkAll elems + uptoBulkAll spare + 1
  | .agg parts => uptoBulkAll parts + 1
  | .iface _ d => uptoBulk d + 1
  | .map entries => uptoBulkEntries entries + 1
  | .held _ => 1
def uptoBulkAll {H : Type} : List (DataW H) → Nat
  | [] => 0
  | d :: r => uptoBulk d + uptoBulkAll r
def uptoBulkEntries {H : Type} : List (Lit × DataW H) → Nat
  | [] => 0
  | x :: r => uptoBulkEntry x + uptoBulkEntries r
def uptoBulkEntry {H : Type} : Lit × DataW H → Nat
  | (.string bytes, d) => bytes.length + uptoBulk d + 1
  | (_, d) => uptoBulk d + 1
 end
def uptoSmall : (H : Type) → List (DataW H) → Bool := fun _ ds => decide (uptoBulkAll ds ≤ 1048576)
def OpenSpec.upto (s : _root_.Go.ChangeSpec) : _root_.Go.OpenSpec := { _root_.Go.OpenSpec.ofChange s with cond := some uptoSmall }

/-- 'osierlaw12.StatForms', WHERE WHAT IT READS IS OF BULK AT MOST 1048576: true; the input reads as it did. -/
def statFormsUptoRow : OpenClaim := { program := "ytppahbgoecldmaa", sum := "cdc2aa0a2e19f69e85ab2b4a32b429e2ebfccb050b1707a509ae7fea1f4835a9", func := "osier/osierlaw12.StatForms", spec := "statForms", apart := false, narrowed := true }
def StatFormsUptoSaid : Prop := statFormsUptoRow.holds Try.pinned (OpenSpec.upto statFormsSpec)

/-- 'osierlaw12.StatOff', WHERE WHAT IT READS IS OF BULK AT MOST 1048576: true; the input reads as it did. -/
def statOffUptoRow : OpenClaim := { program := "ytppahbgoecldmaa", sum := "cdc2aa0a2e19f69e85ab2b4a32b429e2ebfccb050b1707a509ae7fea1f4835a9", func := "osier/osierlaw12.StatOff", spec := "statOff", apart := false, narrowed := true }
def StatOffUptoSaid : Prop := statOffUptoRow.holds Try.pinned (OpenSpec.upto statOffSpec)

/-- 'osierlaw12.StatRises', WHERE WHAT IT READS IS OF BULK AT MOST 1048576: true; the input reads as it did. -/
def statRisesUptoRow : OpenClaim := { program := "ytppahbgoecldmaa", sum := "cdc2aa0a2e19f69e85ab2b4a32b429e2ebfccb050b1707a509ae7fea1f4835a9", func := "osier/osierlaw12.StatRises", spec := "statRises", apart := false, narrowed := true }
def StatRisesUptoSaid : Prop := statRisesUptoRow.holds Try.pinned (OpenSpec.upto statRisesSpec)

/-- 'osierlaw12.StatHeld', WHERE WHAT IT READS IS OF BULK AT MOST 1048576: true; the input reads as it did. -/
def statHeldUptoRow : OpenClaim := { program := "ytppahbgoecldmaa", sum := "cdc2aa0a2e19f69e85ab2b4a32b429e2ebfccb050b1707a509ae7fea1f4835a9", func := "osier/osierlaw12.StatHeld", spec := "statHeld", apart := false, narrowed := true }
def StatHeldUptoSaid : Prop := statHeldUptoRow.holds Try.pinned (OpenSpec.upto statHeldSpec)

/-- 'osierlaw12.StatParts', WHERE WHAT IT READS IS OF BULK AT MOST 1048576: true; the input reads as it did. -/
def statPartsUptoRow : OpenClaim := { program := "ytppahbgoecldmaa", sum := "cdc2aa0a2e19f69e85ab2b4a32b429e2ebfccb050b1707a509ae7fea1f4835a9", func := "osier/osierlaw12.StatParts", spec := "statParts", apart := false, narrowed := true }
def StatPartsUptoSaid : Prop := statPartsUptoRow.holds Try.pinned (OpenSpec.upto statPartsSpec)

end Rows
end Go.Proofs.Ytppahbgoecldmaa
