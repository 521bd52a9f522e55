/-
  No cell of these rows narrows 'for every input' (looked for: loops, veiled, ifaces, maps, wideKeys, modest, calm, conditions, laid).
  DERIVED. THE GIVEN ROWS OF THIS SEAT. 4 by the template 'for every input the law returns true; each argument reads behind the call as it read before'; 0 by the template 'total and deterministic' (their statements: YtpdliokpbnpppaaTotals.lean).
  GIVEN WITH THE SEED: the statements are not yours to turn. If you find one false, say at which input.
  Laid BY PROGRAM, IN A SANDBOX (cutbox-rows.mjs): the forced cells as the released guide's own fill.sh prints them over the translation b089459b7cee6586… (all of the seat's roots in one cut). By AI agents, Wed Nov 11 2026. No macro, syntax, notation, axiom, sorry.
-/
import Derived.Test.YtpdliokpbnpppaaChecked
import GoSem.Claim
import GoSem.ClaimJoined
import GoSem.ClaimMapViews
import Derived.JoinedTies
import Derived.KernelRfl
namespace Go.Proofs.Ytpdliokpbnpppaa
/- THE CELL 'sum', in the pinned program and in every row, IS THE sha256 OF THE DUMP (.gsa) THAT YtpdliokpbnpppaaProg.lean LOADS. Nothing in Lean hashes anything: it is a label: what it is worth is what the hold of that sum in a sandbox is worth. -/
noncomputable def Try.pinned : Pinned := { name := "ytpdliokpbnpppaa", sum := "b089459b7cee65860672cd40f6513bebdb87b26a43967f90507d11a50cc4ba27", checked := Try.checked }
namespace Rows
def none {H : Type} : Left H := { results := [], args := [] }

/-- 'osierlaw17.SoloOff': WHATEVER THE INPUT: true; the input reads as it did. -/
def soloOffSpec : ChangeSpec := { name := "soloOff", fn := fun _ => fun
  | [d1, d2, d3, d4] => { results := [.lit (.bool true)], args := [d1, d2, d3, d4] }
  | _ => none }
def soloOffRow : OpenClaim := { program := "ytpdliokpbnpppaa", sum := "b089459b7cee65860672cd40f6513bebdb87b26a43967f90507d11a50cc4ba27", func := "osier/osierlaw17.SoloOff", spec := "soloOff", unfollowed := true, recurses := true, apart := false }
def SoloOffSaid : Prop := soloOffRow.holds Try.pinned (OpenSpec.ofChange soloOffSpec)

/-- ITS FALSE NEIGHBOUR: 'it returns false'. Refute it at one input. -/
def soloOffWrong : ChangeSpec := { name := "soloOff", fn := fun _ => fun
  | [d1, d2, d3, d4] => { results := [.lit (.bool false)], args := [d1, d2, d3, d4] }
  | _ => none }
def SoloOffWrongFalsely : Prop := soloOffRow.holds Try.pinned (OpenSpec.ofChange soloOffWrong)

/-- 'osierlaw17.SoloLocal': WHATEVER THE INPUT: true; the input reads as it did. -/
def soloLocalSpec : ChangeSpec := { name := "soloLocal", fn := fun _ => fun
  | [d1, d2, d3] => { results := [.lit (.bool true)], args := [d1, d2, d3] }
  | _ => none }
def soloLocalRow : OpenClaim := { program := "ytpdliokpbnpppaa", sum := "b089459b7cee65860672cd40f6513bebdb87b26a43967f90507d11a50cc4ba27", func := "osier/osierlaw17.SoloLocal", spec := "soloLocal", unfollowed := true, recurses := true, apart := false }
def SoloLocalSaid : Prop := soloLocalRow.holds Try.pinned (OpenSpec.ofChange soloLocalSpec)

/-- ITS FALSE NEIGHBOUR: 'it returns false'. Refute it at one input. -/
def soloLocalWrong : ChangeSpec := { name := "soloLocal", fn := fun _ => fun
  | [d1, d2, d3] => { results := [.lit (.bool false)], args := [d1, d2, d3] }
  | _ => none }
def SoloLocalWrongFalsely : Prop := soloLocalRow.holds Try.pinned (OpenSpec.ofChange soloLocalWrong)

/-- 'osierlaw17.SoloEager': WHATEVER THE INPUT: true; the input reads as it did. -/
def soloEagerSpec : ChangeSpec := { name := "soloEager", fn := fun _ => fun
  | [d] => { results := [.lit (.bool true)], args := [d] }
  | _ => none }
def soloEagerRow : OpenClaim := { program := "ytpdliokpbnpppaa", sum := "b089459b7cee65860672cd40f6513bebdb87b26a43967f90507d11a50cc4ba27", func := "osier/osierlaw17.SoloEager", spec := "soloEager", unfollowed := true, recurses := true, apart := false }
def SoloEagerSaid : Prop := soloEagerRow.holds Try.pinned (OpenSpec.ofChange soloEagerSpec)

/-- ITS FALSE NEIGHBOUR: 'it returns false'. Refute it at one input. -/
def soloEagerWrong : ChangeSpec := { name := "soloEager", fn := fun _ => fun
  | [d] => { results := [.lit (.bool false)], args := [d] }
  | _ => none }
def SoloEagerWrongFalsely : Prop := soloEagerRow.holds Try.pinned (OpenSpec.ofChange soloEagerWrong)

/-- 'osierlaw17.SoloJoins': WHATEVER THE INPUT: true; the input reads as it did. -/
def soloJoinsSpec : ChangeSpec := { name := "soloJoins", fn := fun _ => fun
  | [d1, d2] => { results := [.lit (.bool true)], args := [d1, d2] }
  | _ => none }
def soloJoinsRow : OpenClaim := { program := "ytpdliokpbnpppaa", sum := "b089459b7cee65860672cd40f6513bebdb87b26a43967f90507d11a50cc4ba27", func := "osier/osierlaw17.SoloJoins", spec := "soloJoins", unfollowed := true, recurses := true, apart := false }
def SoloJoinsSaid : Prop := soloJoinsRow.holds Try.pinned (OpenSpec.ofChange soloJoinsSpec)

/-- ITS FALSE NEIGHBOUR: 'it returns false'. Refute it at one input. -/
def soloJoinsWrong : ChangeSpec := { name := "soloJoins", fn := fun _ => fun
  | [d1, d2] => { results := [.lit (.bool false)], args := [d1, d2] }
  | _ => none }
def SoloJoinsWrongFalsely : Prop := soloJoinsRow.holds Try.pinned (OpenSpec.ofChange soloJoinsWrong)

/- THE SECOND FORM. 'bulk': how many values and letters a reading holds, each counted each time it is reached (what is shared counts as often as it is met; a slice's spare places count too). A statement '..UptoSaid' is the law's where the arguments, and the package variables that the reading takes, are together of bulk at most 1048576: NARROWER than '..Said'. Prove '..Said' where nothing that the law and all that it calls make is longer than what came in: it says more and counts as full. Else prove '..UptoSaid'. A law counts once. -/
mutual
def uptoBulk {H : Type} : DataW H → Nat
  | .lit (.string bytes) => bytes.length + 1
  | .lit _ => 1
  | .nil => 1
  | .ptr d => uptoBulk d + 1
  | .slice elems spare => uptoBulkAll elems + uptoBulkAll spare + 1
  | .agg parts => uptoBulkAll parts + 1
  | .iface _ d => uptoBulk d + 1
  | .map entries => uptoBulkEntries entries + 1
  | .held _ => 1
def uptoBulkAll {H : Type} : List (DataW H) → Nat
  | [] => 0
  | d :: r => uptoBulk d + uptoBulkAll r
def uptoBulkEntries {H : Type} : List (Lit × DataW H) → Nat
  | [] => 0
  | x :: r => uptoBulkEntry x + uptoBulkEntries r
def uptoBulkEntry {H : Type} : Lit × DataW H → Nat
  | (.string bytes, d) => bytes.length + uptoBulk d + 1
  | (_, d) => uptoBulk d + 1
 end
def uptoSmall : (H : Type) → List (DataW H) → Bool := fun _ ds => decide (uptoBulkAll ds ≤ 1048576)
def OpenSpec.upto (s : _root_.Go.ChangeSpec) : _root_.Go.OpenSpec := { _root_.Go.OpenSpec.ofChange s with cond := some uptoSmall }

/-- 'osierlaw17.SoloOff', WHERE WHAT IT READS IS OF BULK AT MOST 1048576: true; the input reads as it did. -/
def soloOffUptoRow : OpenClaim := { program := "ytpdliokpbnpppaa", sum := "b089459b7cee65860672cd40f6513bebdb87b26a43967f90507d11a50cc4ba27", func := "osier/osierlaw17.SoloOff", spec := "soloOff", unfollowed := true, recurses := true, apart := false, narrowed := true }
def SoloOffUptoSaid : Prop := soloOffUptoRow.holds Try.pinned (OpenSpec.upto soloOffSpec)

/-- 'osierlaw17.SoloLocal', WHERE WHAT IT READS IS OF BULK AT MOST 1048576: true; the input reads as it did. -/
def soloLocalUptoRow : OpenClaim := { program := "ytpdliokpbnpppaa", sum := "b089459b7cee65860672cd40f6513bebdb87b26a43967f90507d11a50cc4ba27", func := "osier/osierlaw17.SoloLocal", spec := "soloLocal", unfollowed := true, recurses := true, apart := false, narrowed := true }
def SoloLocalUptoSaid : Prop := soloLocalUptoRow.holds Try.pinned (OpenSpec.upto soloLocalSpec)

/-- 'osierlaw17.SoloEager', WHERE WHAT IT READS IS OF BULK AT MOST 1048576: true; the input reads as it did. -/
def soloEagerUptoRow : OpenClaim := { program := "ytpdliokpbnpppaa", sum := "b089459b7cee65860672cd40f6513bebdb87b26a43967f90507d11a50cc4ba27", func := "osier/osierlaw17.SoloEager", spec := "soloEager", unfollowed := true, recurses := true, apart := false, narrowed := true }
def SoloEagerUptoSaid : Prop := soloEagerUptoRow.holds Try.pinned (OpenSpec.upto soloEagerSpec)

/-- 'osierlaw17.SoloJoins', WHERE WHAT IT READS IS OF BULK AT MOST 1048576: true; the input reads as it did. -/
def soloJoinsUptoRow : OpenClaim := { program := "ytpdliokpbnpppaa", sum := "b089459b7cee65860672cd40f6513bebdb87b26a43967f90507d11a50cc4ba27", func := "osier/osierlaw17.SoloJoins", spec := "soloJoins", unfollowed := true, recurses := true, apart := false, narrowed := true }
def SoloJoinsUptoSaid : Prop := soloJoinsUptoRow.holds Try.pinned (OpenSpec.upto soloJoinsSpec)

end Rows
end Go.Proofs.Ytpdliokpbnpppaa
