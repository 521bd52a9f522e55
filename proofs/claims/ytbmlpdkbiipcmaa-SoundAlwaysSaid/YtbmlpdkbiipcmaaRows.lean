/-
  No cell of these rows narrows 'for every input' (looked for: loops, veiled, ifaces, maps, wideKeys, modest, calm, conditions, laid).
  DERIVED. THE GIVEN ROWS OF THIS SEAT. 4 by the template 'for every input the law returns true; each argument reads behind the call as it read before'; 0 by the template 'total and deterministic' (their statements: YtbmlpdkbiipcmaaTotals.lean).
  GIVEN WITH THE SEED: the statements are not yours to turn. If you find one false, say at which input.
  Laid BY PROGRAM, IN A SANDBOX (cutbox-rows.mjs): the forced cells as the released guide's own fill.sh prints them over the translation 59a758d34ed026cd… (all of the seat's roots in one cut). By AI agents, Wed Nov 11 2026. No macro, syntax, notation, axiom, sorry.
-/
import Derived.Test.YtbmlpdkbiipcmaaChecked
import GoSem.Claim
import GoSem.ClaimJoined
import GoSem.ClaimMapViews
import Derived.JoinedTies
import Derived.KernelRfl
namespace Go.Proofs.Ytbmlpdkbiipcmaa
/- THE CELL 'sum', in the pinned program and in every row, IS THE sha256 OF THE DUMP (.gsa) THAT YtbmlpdkbiipcmaaProg.lean LOADS. Nothing in Lean hashes anything: it is a label: what it is worth is what the hold of that sum in a sandbox is worth. -/
noncomputable def Try.pinned : Pinned := { name := "ytbmlpdkbiipcmaa", sum := "59a758d34ed026cdff1f658dc4f4b84c530a2a4115a9d088e91134a14c60eb20", checked := Try.checked }
namespace Rows
def none {H : Type} : Left H := { results := [], args := [] }

/-- 'osierlaw10.SoundOne': WHATEVER THE INPUT: true; the input reads as it did. -/
def soundOneSpec : ChangeSpec := { name := "soundOne", fn := fun _ => fun
  | [d1, d2, d3] => { results := [.lit (.bool true)], args := [d1, d2, d3] }
  | _ => none }
def soundOneRow : OpenClaim := { program := "ytbmlpdkbiipcmaa", sum := "59a758d34ed026cdff1f658dc4f4b84c530a2a4115a9d088e91134a14c60eb20", func := "osier/osierlaw10.SoundOne", spec := "soundOne", recurses := true, plainKeys := false, apart := false }
def SoundOneSaid : Prop := soundOneRow.holds Try.pinned (OpenSpec.ofChange soundOneSpec)

/-- ITS FALSE NEIGHBOUR: 'it returns false'. Refute it at one input. -/
def soundOneWrong : ChangeSpec := { name := "soundOne", fn := fun _ => fun
  | [d1, d2, d3] => { results := [.lit (.bool false)], args := [d1, d2, d3] }
  | _ => none }
def SoundOneWrongFalsely : Prop := soundOneRow.holds Try.pinned (OpenSpec.ofChange soundOneWrong)

/-- 'osierlaw10.SoundTurned': WHATEVER THE INPUT: true; the input reads as it did. -/
def soundTurnedSpec : ChangeSpec := { name := "soundTurned", fn := fun _ => fun
  | [d1, d2] => { results := [.lit (.bool true)], args := [d1, d2] }
  | _ => none }
def soundTurnedRow : OpenClaim := { program := "ytbmlpdkbiipcmaa", sum := "59a758d34ed026cdff1f658dc4f4b84c530a2a4115a9d088e91134a14c60eb20", func := "osier/osierlaw10.SoundTurned", spec := "soundTurned", recurses := true, plainKeys := false, apart := false }
def SoundTurnedSaid : Prop := soundTurnedRow.holds Try.pinned (OpenSpec.ofChange soundTurnedSpec)

/-- ITS FALSE NEIGHBOUR: 'it returns false'. Refute it at one input. -/
def soundTurnedWrong : ChangeSpec := { name := "soundTurned", fn := fun _ => fun
  | [d1, d2] => { results := [.lit (.bool false)], args := [d1, d2] }
  | _ => none }
def SoundTurnedWrongFalsely : Prop := soundTurnedRow.holds Try.pinned (OpenSpec.ofChange soundTurnedWrong)

/-- 'osierlaw10.SoundAlways': WHATEVER THE INPUT: true; the input reads as it did. -/
def soundAlwaysSpec : ChangeSpec := { name := "soundAlways", fn := fun _ => fun
  | [d1, d2] => { results := [.lit (.bool true)], args := [d1, d2] }
  | _ => none }
def soundAlwaysRow : OpenClaim := { program := "ytbmlpdkbiipcmaa", sum := "59a758d34ed026cdff1f658dc4f4b84c530a2a4115a9d088e91134a14c60eb20", func := "osier/osierlaw10.SoundAlways", spec := "soundAlways", unfollowed := true, recurses := true, plainKeys := false, apart := false }
def SoundAlwaysSaid : Prop := soundAlwaysRow.holds Try.pinned (OpenSpec.ofChange soundAlwaysSpec)

/-- ITS FALSE NEIGHBOUR: 'it returns false'. Refute it at one input. -/
def soundAlwaysWrong : ChangeSpec := { name := "soundAlways", fn := fun _ => fun
  | [d1, d2] => { results := [.lit (.bool false)], args := [d1, d2] }
  | _ => none }
def SoundAlwaysWrongFalsely : Prop := soundAlwaysRow.holds Try.pinned (OpenSpec.ofChange soundAlwaysWrong)

/-- 'osierlaw10.SoundNone': WHATEVER THE INPUT: true; the input reads as it did. -/
def soundNoneSpec : ChangeSpec := { name := "soundNone", fn := fun _ => fun
  | [d1, d2, d3] => { results := [.lit (.bool true)], args := [d1, d2, d3] }
  | _ => none }
def soundNoneRow : OpenClaim := { program := "ytbmlpdkbiipcmaa", sum := "59a758d34ed026cdff1f658dc4f4b84c530a2a4115a9d088e91134a14c60eb20", func := "osier/osierlaw10.SoundNone", spec := "soundNone", recurses := true, plainKeys := false, apart := false }
def SoundNoneSaid : Prop := soundNoneRow.holds Try.pinned (OpenSpec.ofChange soundNoneSpec)

/-- ITS FALSE NEIGHBOUR: 'it returns false'. Refute it at one input. -/
def soundNoneWrong : ChangeSpec := { name := "soundNone", fn := fun _ => fun
  | [d1, d2, d3] => { results := [.lit (.bool false)], args := [d1, d2, d3] }
  | _ => none }
def SoundNoneWrongFalsely : Prop := soundNoneRow.holds Try.pinned (OpenSpec.ofChange soundNoneWrong)

/- THE SECOND FORM. 'bulk': how many values and letters a reading holds, each counted each time it is reached (what is shared counts as often as it is met; a slice's spare places count too). A statement '..UptoSaid' is the law's where the arguments, and the package variables that the reading takes, are together of bulk at most 1048576: NARROWER than '..Said'. Prove '..Said' where nothing that the law and all that it calls make is longer than what came in: it says more and counts as full. Else prove '..UptoSaid'. A law counts once. -/
mutual
def uptoBulk {H : Type} : DataW H → Nat
  | .lit (.string bytes) => bytes.length + 1
  | .lit _ => 1
  | .nil => 1
  | .ptr d => uptoBulk d + 1
  | .slice elems spare => uptoBulkAll elems + uptoBulkAll spare + 1
  | .agg parts => uptoBulkAll parts + 1
  | .iface _ d => uptoBulk d + 1
  | .map entries => uptoBulkEntries entries + 1
  | .held _ => 1
def uptoBulkAll {H : Type} : List (DataW H) → Nat
  | [] => 0
  | d :: r => uptoBulk d + uptoBulkAll r
def uptoBulkEntries {H : Type} : List (Lit × DataW H) → Nat
  | [] => 0
  | x :: r => uptoBulkEntry x + uptoBulkEntries r
def uptoBulkEntry {H : Type} : Lit × DataW H → Nat
  | (.string bytes, d) => bytes.length + uptoBulk d + 1
  | (_, d) => uptoBulk d + 1
 end
def uptoSmall : (H : Type) → List (DataW H) → Bool := fun _ ds => decide (uptoBulkAll ds ≤ 1048576)
def OpenSpec.upto (s : _root_.Go.ChangeSpec) : _root_.Go.OpenSpec := { _root_.Go.OpenSpec.ofChange s with cond := some uptoSmall }

/-- 'osierlaw10.SoundOne', WHERE WHAT IT READS IS OF BULK AT MOST 1048576: true; the input reads as it did. -/
def soundOneUptoRow : OpenClaim := { program := "ytbmlpdkbiipcmaa", sum := "59a758d34ed026cdff1f658dc4f4b84c530a2a4115a9d088e91134a14c60eb20", func := "osier/osierlaw10.SoundOne", spec := "soundOne", recurses := true, plainKeys := false, apart := false, narrowed := true }
def SoundOneUptoSaid : Prop := soundOneUptoRow.holds Try.pinned (OpenSpec.upto soundOneSpec)

/-- 'osierlaw10.SoundTurned', WHERE WHAT IT READS IS OF BULK AT MOST 1048576: true; the input reads as it did. -/
def soundTurnedUptoRow : OpenClaim := { program := "ytbmlpdkbiipcmaa", sum := "59a758d34ed026cdff1f658dc4f4b84c530a2a4115a9d088e91134a14c60eb20", func := "osier/osierlaw10.SoundTurned", spec := "soundTurned", recurses := true, plainKeys := false, apart := false, narrowed := true }
def SoundTurnedUptoSaid : Prop := soundTurnedUptoRow.holds Try.pinned (OpenSpec.upto soundTurnedSpec)

/-- 'osierlaw10.SoundAlways', WHERE WHAT IT READS IS OF BULK AT MOST 1048576: true; the input reads as it did. -/
def soundAlwaysUptoRow : OpenClaim := { program := "ytbmlpdkbiipcmaa", sum := "59a758d34ed026cdff1f658dc4f4b84c530a2a4115a9d088e91134a14c60eb20", func := "osier/osierlaw10.SoundAlways", spec := "soundAlways", unfollowed := true, recurses := true, plainKeys := false, apart := false, narrowed := true }
def SoundAlwaysUptoSaid : Prop := soundAlwaysUptoRow.holds Try.pinned (OpenSpec.upto soundAlwaysSpec)

/-- 'osierlaw10.SoundNone', WHERE WHAT IT READS IS OF BULK AT MOST 1048576: true; the input reads as it did. -/
def soundNoneUptoRow : OpenClaim := { program := "ytbmlpdkbiipcmaa", sum := "59a758d34ed026cdff1f658dc4f4b84c530a2a4115a9d088e91134a14c60eb20", func := "osier/osierlaw10.SoundNone", spec := "soundNone", recurses := true, plainKeys := false, apart := false, narrowed := true }
def SoundNoneUptoSaid : Prop := soundNoneUptoRow.holds Try.pinned (OpenSpec.upto soundNoneSpec)

end Rows
end Go.Proofs.Ytbmlpdkbiipcmaa
