/-
  No cell of these rows narrows 'for every input' (looked for: loops, veiled, ifaces, maps, wideKeys, modest, calm, conditions, laid).
  DERIVED. THE GIVEN ROWS OF THIS SEAT. 5 by the template 'for every input the law returns true; each argument reads behind the call as it read before'; 0 by the template 'total and deterministic' (their statements: YtdhonompnbphlaaTotals.lean).
  GIVEN WITH THE SEED: the statements are not yours to turn. If you find one false, say at which input.
  Laid BY PROGRAM, IN A SANDBOX (cutbox-rows.mjs): the forced cells as the released guide's own fill.sh prints them over the translation 22e9f9ad1e0f3fce… (all of the seat's roots in one cut). By AI agents, Wed Nov 11 2026. No macro, syntax, notation, axiom, sorry.
-/
import Derived.Test.YtdhonompnbphlaaChecked
import GoSem.Claim
import GoSem.ClaimJoined
import GoSem.ClaimMapViews
import Derived.JoinedTies
import Derived.KernelRfl
namespace Go.Proofs.Ytdhonompnbphlaa
/- THE CELL 'sum', in the pinned program and in every row, IS THE sha256 OF THE DUMP (.gsa) THAT YtdhonompnbphlaaProg.lean LOADS. Nothing in Lean hashes anything: it is a label: what it is worth is what the hold of that sum in a sandbox is worth. -/
noncomputable def Try.pinned : Pinned := { name := "ytdhonompnbphlaa", sum := "22e9f9ad1e0f3fce4d7d6c87dae24977effe6673e625460acffe37d82860dded", checked := Try.checked }
namespace Rows
def none {H : Type} : Left H := { results := [], args := [] }

/-- 'osierlaw17.SoloLocal': WHATEVER THE INPUT: true; the input reads as it did. -/
def soloLocalSpec : ChangeSpec := { name := "soloLocal", fn := fun _ => fun
  | [d1, d2, d3] => { results := [.lit (.bool true)], args := [d1, d2, d3] }
  | _ => none }
def soloLocalRow : OpenClaim := { program := "ytdhonompnbphlaa", sum := "22e9f9ad1e0f3fce4d7d6c87dae24977effe6673e625460acffe37d82860dded", func := "osier/osierlaw17.SoloLocal", spec := "soloLocal", unfollowed := true, recurses := true, apart := false }
def SoloLocalSaid : Prop := soloLocalRow.holds Try.pinned (OpenSpec.ofChange soloLocalSpec)

/-- ITS FALSE NEIGHBOUR: 'it returns false'. Refute it at one input. -/
def soloLocalWrong : ChangeSpec := { name := "soloLocal", fn := fun _ => fun
  | [d1, d2, d3] => { results := [.lit (.bool false)], args := [d1, d2, d3] }
  | _ => none }
def SoloLocalWrongFalsely : Prop := soloLocalRow.holds Try.pinned (OpenSpec.ofChange soloLocalWrong)

/-- 'osierlaw18.PastOrder': WHATEVER THE INPUT: true; the input reads as it did. -/
def pastOrderSpec : ChangeSpec := { name := "pastOrder", fn := fun _ => fun
  | [d1, d2, d3, d4] => { results := [.lit (.bool true)], args := [d1, d2, d3, d4] }
  | _ => none }
def pastOrderRow : OpenClaim := { program := "ytdhonompnbphlaa", sum := "22e9f9ad1e0f3fce4d7d6c87dae24977effe6673e625460acffe37d82860dded", func := "osier/osierlaw18.PastOrder", spec := "pastOrder", unfollowed := true, recurses := true, apart := false }
def PastOrderSaid : Prop := pastOrderRow.holds Try.pinned (OpenSpec.ofChange pastOrderSpec)

/-- ITS FALSE NEIGHBOUR: 'it returns false'. Refute it at one input. -/
def pastOrderWrong : ChangeSpec := { name := "pastOrder", fn := fun _ => fun
  | [d1, d2, d3, d4] => { results := [.lit (.bool false)], args := [d1, d2, d3, d4] }
  | _ => none }
def PastOrderWrongFalsely : Prop := pastOrderRow.holds Try.pinned (OpenSpec.ofChange pastOrderWrong)

/-- 'osierlaw18.PastCut': WHATEVER THE INPUT: true; the input reads as it did. -/
def pastCutSpec : ChangeSpec := { name := "pastCut", fn := fun _ => fun
  | [d1, d2] => { results := [.lit (.bool true)], args := [d1, d2] }
  | _ => none }
def pastCutRow : OpenClaim := { program := "ytdhonompnbphlaa", sum := "22e9f9ad1e0f3fce4d7d6c87dae24977effe6673e625460acffe37d82860dded", func := "osier/osierlaw18.PastCut", spec := "pastCut", unfollowed := true, recurses := true, apart := false }
def PastCutSaid : Prop := pastCutRow.holds Try.pinned (OpenSpec.ofChange pastCutSpec)

/-- ITS FALSE NEIGHBOUR: 'it returns false'. Refute it at one input. -/
def pastCutWrong : ChangeSpec := { name := "pastCut", fn := fun _ => fun
  | [d1, d2] => { results := [.lit (.bool false)], args := [d1, d2] }
  | _ => none }
def PastCutWrongFalsely : Prop := pastCutRow.holds Try.pinned (OpenSpec.ofChange pastCutWrong)

/-- 'osierlaw18.PastTurns': WHATEVER THE INPUT: true; the input reads as it did. -/
def pastTurnsSpec : ChangeSpec := { name := "pastTurns", fn := fun _ => fun
  | [d1, d2, d3, d4] => { results := [.lit (.bool true)], args := [d1, d2, d3, d4] }
  | _ => none }
def pastTurnsRow : OpenClaim := { program := "ytdhonompnbphlaa", sum := "22e9f9ad1e0f3fce4d7d6c87dae24977effe6673e625460acffe37d82860dded", func := "osier/osierlaw18.PastTurns", spec := "pastTurns", unfollowed := true, recurses := true, apart := false }
def PastTurnsSaid : Prop := pastTurnsRow.holds Try.pinned (OpenSpec.ofChange pastTurnsSpec)

/-- ITS FALSE NEIGHBOUR: 'it returns false'. Refute it at one input. -/
def pastTurnsWrong : ChangeSpec := { name := "pastTurns", fn := fun _ => fun
  | [d1, d2, d3, d4] => { results := [.lit (.bool false)], args := [d1, d2, d3, d4] }
  | _ => none }
def PastTurnsWrongFalsely : Prop := pastTurnsRow.holds Try.pinned (OpenSpec.ofChange pastTurnsWrong)

/-- 'osierlaw18.PastCounts': WHATEVER THE INPUT: true; the input reads as it did. -/
def pastCountsSpec : ChangeSpec := { name := "pastCounts", fn := fun _ => fun
  | [d] => { results := [.lit (.bool true)], args := [d] }
  | _ => none }
def pastCountsRow : OpenClaim := { program := "ytdhonompnbphlaa", sum := "22e9f9ad1e0f3fce4d7d6c87dae24977effe6673e625460acffe37d82860dded", func := "osier/osierlaw18.PastCounts", spec := "pastCounts", unfollowed := true, recurses := true, apart := false }
def PastCountsSaid : Prop := pastCountsRow.holds Try.pinned (OpenSpec.ofChange pastCountsSpec)

/-- ITS FALSE NEIGHBOUR: 'it returns false'. Refute it at one input. -/
def pastCountsWrong : ChangeSpec := { name := "pastCounts", fn := fun _ => fun
  | [d] => { results := [.lit (.bool false)], args := [d] }
  | _ => none }
def PastCountsWrongFalsely : Prop := pastCountsRow.holds Try.pinned (OpenSpec.ofChange pastCountsWrong)

/- THE SECOND FORM. 'bulk': how many values and letters a reading holds, each counted each time it is reached (what is shared counts as often as it is met; a slice's spare places count too). A statement '..UptoSaid' is the law's where the arguments, and the package variables that the reading takes, are together of bulk at most 1048576: NARROWER than '..Said'. Prove '..Said' where nothing that the law and all that it calls make is longer than what came in: it says more and counts as full. Else prove '..UptoSaid'. A law counts once. -/
mutual
def uptoBulk {H : Type} : DataW H → Nat
  | .lit (.string bytes) => bytes.length + 1
  | .lit _ => 1
  | .nil => 1
  | .ptr d => uptoBulk d + 1
  | .slice elems spare => uptoBulkAll elems + uptoBulkAll spare + 1
  | .agg parts => uptoBulkAll parts + 1
  | .iface _ d => uptoBulk d + 1
  | .map entries => uptoBulkEntries entries + 1
  | .held _ => 1
def uptoBulkAll {H : Type} : List (DataW H) → Nat
  | [] => 0
  | d :: r => uptoBulk d + uptoBulkAll r
def uptoBulkEntries {H : Type} : List (Lit × DataW H) → Nat
  | [] => 0
  | x :: r => uptoBulkEntry x + uptoBulkEntries r
def uptoBulkEntry {H : Type} : Lit × DataW H → Nat
  | (.string bytes, d) => bytes.length + uptoBulk d + 1
  | (_, d) => uptoBulk d + 1
 end
def uptoSmall : (H : Type) → List (DataW H) → Bool := fun _ ds => decide (uptoBulkAll ds ≤ 1048576)
def OpenSpec.upto (s : _root_.Go.ChangeSpec) : _root_.Go.OpenSpec := { _root_.Go.OpenSpec.ofChange s with cond := some uptoSmall }

/-- 'osierlaw17.SoloLocal', WHERE WHAT IT READS IS OF BULK AT MOST 1048576: true; the input reads as it did. -/
def soloLocalUptoRow : OpenClaim := { program := "ytdhonompnbphlaa", sum := "22e9f9ad1e0f3fce4d7d6c87dae24977effe6673e625460acffe37d82860dded", func := "osier/osierlaw17.SoloLocal", spec := "soloLocal", unfollowed := true, recurses := true, apart := false, narrowed := true }
def SoloLocalUptoSaid : Prop := soloLocalUptoRow.holds Try.pinned (OpenSpec.upto soloLocalSpec)

/-- 'osierlaw18.PastOrder', WHERE WHAT IT READS IS OF BULK AT MOST 1048576: true; the input reads as it did. -/
def pastOrderUptoRow : OpenClaim := { program := "ytdhonompnbphlaa", sum := "22e9f9ad1e0f3fce4d7d6c87dae24977effe6673e625460acffe37d82860dded", func := "osier/osierlaw18.PastOrder", spec := "pastOrder", unfollowed := true, recurses := true, apart := false, narrowed := true }
def PastOrderUptoSaid : Prop := pastOrderUptoRow.holds Try.pinned (OpenSpec.upto pastOrderSpec)

/-- 'osierlaw18.PastCut', WHERE WHAT IT READS IS OF BULK AT MOST 1048576: true; the input reads as it did. -/
def pastCutUptoRow : OpenClaim := { program := "ytdhonompnbphlaa", sum := "22e9f9ad1e0f3fce4d7d6c87dae24977effe6673e625460acffe37d82860dded", func := "osier/osierlaw18.PastCut", spec := "pastCut", unfollowed := true, recurses := true, apart := false, narrowed := true }
def PastCutUptoSaid : Prop := pastCutUptoRow.holds Try.pinned (OpenSpec.upto pastCutSpec)

/-- 'osierlaw18.PastTurns', WHERE WHAT IT READS IS OF BULK AT MOST 1048576: true; the input reads as it did. -/
def pastTurnsUptoRow : OpenClaim := { program := "ytdhonompnbphlaa", sum := "22e9f9ad1e0f3fce4d7d6c87dae24977effe6673e625460acffe37d82860dded", func := "osier/osierlaw18.PastTurns", spec := "pastTurns", unfollowed := true, recurses := true, apart := false, narrowed := true }
def PastTurnsUptoSaid : Prop := pastTurnsUptoRow.holds Try.pinned (OpenSpec.upto pastTurnsSpec)

/-- 'osierlaw18.PastCounts', WHERE WHAT IT READS IS OF BULK AT MOST 1048576: true; the input reads as it did. -/
def pastCountsUptoRow : OpenClaim := { program := "ytdhonompnbphlaa", sum := "22e9f9ad1e0f3fce4d7d6c87dae24977effe6673e625460acffe37d82860dded", func := "osier/osierlaw18.PastCounts", spec := "pastCounts", unfollowed := true, recurses := true, apart := false, narrowed := true }
def PastCountsUptoSaid : Prop := pastCountsUptoRow.holds Try.pinned (OpenSpec.upto pastCountsSpec)

end Rows
end Go.Proofs.Ytdhonompnbphlaa
