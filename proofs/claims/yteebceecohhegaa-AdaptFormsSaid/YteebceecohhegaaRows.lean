/-
  No cell of these rows narrows 'for every input' (looked for: loops, veiled, ifaces, maps, wideKeys, modest, calm, conditions, laid).
  DERIVED. THE GIVEN ROWS OF THIS SEAT. 5 by the template 'for every input the law returns true; each argument reads behind the call as it read before'; 0 by the template 'total and deterministic' (their statements: YteebceecohhegaaTotals.lean).
  GIVEN WITH THE SEED: the statements are not yours to turn. If you find one false, say at which input.
  Laid BY PROGRAM, IN A SANDBOX (cutbox-rows.mjs): the forced cells as the released guide's own fill.sh prints them over the translation 9a95b2074abe35a7… (all of the seat's roots in one cut). By AI agents, Wed Nov 11 2026. No macro, syntax, notation, axiom, sorry.
-/
import Derived.Test.YteebceecohhegaaChecked
import GoSem.Claim
import GoSem.ClaimJoined
import GoSem.ClaimMapViews
import Derived.JoinedTies
import Derived.KernelRfl
namespace Go.Proofs.Yteebceecohhegaa
/- THE CELL 'sum', in the pinned program and in every row, IS THE sha256 OF THE DUMP (.gsa) THAT YteebceecohhegaaProg.lean LOADS. Nothing in Lean hashes anything: it is a label: what it is worth is what the hold of that sum in a sandbox is worth. -/
noncomputable def Try.pinned : Pinned := { name := "yteebceecohhegaa", sum := "9a95b2074abe35a7c049679b70df640fe81f57a1f907586885e957f968982296", checked := Try.checked }
namespace Rows
def none {H : Type} : Left H := { results := [], args := [] }

/-- 'osierlaw15.AdaptForms': WHATEVER THE INPUT: true; the input reads as it did. -/
def adaptFormsSpec : ChangeSpec := { name := "adaptForms", fn := fun _ => fun
  | [d1, d2, d3] => { results := [.lit (.bool true)], args := [d1, d2, d3] }
  | _ => none }
def adaptFormsRow : OpenClaim := { program := "yteebceecohhegaa", sum := "9a95b2074abe35a7c049679b70df640fe81f57a1f907586885e957f968982296", func := "osier/osierlaw15.AdaptForms", spec := "adaptForms", unfollowed := true, recurses := true, apart := false }
def AdaptFormsSaid : Prop := adaptFormsRow.holds Try.pinned (OpenSpec.ofChange adaptFormsSpec)

/-- ITS FALSE NEIGHBOUR: 'it returns false'. Refute it at one input. -/
def adaptFormsWrong : ChangeSpec := { name := "adaptForms", fn := fun _ => fun
  | [d1, d2, d3] => { results := [.lit (.bool false)], args := [d1, d2, d3] }
  | _ => none }
def AdaptFormsWrongFalsely : Prop := adaptFormsRow.holds Try.pinned (OpenSpec.ofChange adaptFormsWrong)

/-- 'osierlaw15.AdaptKeeps': WHATEVER THE INPUT: true; the input reads as it did. -/
def adaptKeepsSpec : ChangeSpec := { name := "adaptKeeps", fn := fun _ => fun
  | [d1, d2] => { results := [.lit (.bool true)], args := [d1, d2] }
  | _ => none }
def adaptKeepsRow : OpenClaim := { program := "yteebceecohhegaa", sum := "9a95b2074abe35a7c049679b70df640fe81f57a1f907586885e957f968982296", func := "osier/osierlaw15.AdaptKeeps", spec := "adaptKeeps", unfollowed := true, recurses := true, apart := false }
def AdaptKeepsSaid : Prop := adaptKeepsRow.holds Try.pinned (OpenSpec.ofChange adaptKeepsSpec)

/-- ITS FALSE NEIGHBOUR: 'it returns false'. Refute it at one input. -/
def adaptKeepsWrong : ChangeSpec := { name := "adaptKeeps", fn := fun _ => fun
  | [d1, d2] => { results := [.lit (.bool false)], args := [d1, d2] }
  | _ => none }
def AdaptKeepsWrongFalsely : Prop := adaptKeepsRow.holds Try.pinned (OpenSpec.ofChange adaptKeepsWrong)

/-- 'osierlaw15.AdaptBack': WHATEVER THE INPUT: true; the input reads as it did. -/
def adaptBackSpec : ChangeSpec := { name := "adaptBack", fn := fun _ => fun
  | [d1, d2] => { results := [.lit (.bool true)], args := [d1, d2] }
  | _ => none }
def adaptBackRow : OpenClaim := { program := "yteebceecohhegaa", sum := "9a95b2074abe35a7c049679b70df640fe81f57a1f907586885e957f968982296", func := "osier/osierlaw15.AdaptBack", spec := "adaptBack", unfollowed := true, recurses := true, apart := false }
def AdaptBackSaid : Prop := adaptBackRow.holds Try.pinned (OpenSpec.ofChange adaptBackSpec)

/-- ITS FALSE NEIGHBOUR: 'it returns false'. Refute it at one input. -/
def adaptBackWrong : ChangeSpec := { name := "adaptBack", fn := fun _ => fun
  | [d1, d2] => { results := [.lit (.bool false)], args := [d1, d2] }
  | _ => none }
def AdaptBackWrongFalsely : Prop := adaptBackRow.holds Try.pinned (OpenSpec.ofChange adaptBackWrong)

/-- 'osierlaw15.AdaptNext': WHATEVER THE INPUT: true; the input reads as it did. -/
def adaptNextSpec : ChangeSpec := { name := "adaptNext", fn := fun _ => fun
  | [d1, d2] => { results := [.lit (.bool true)], args := [d1, d2] }
  | _ => none }
def adaptNextRow : OpenClaim := { program := "yteebceecohhegaa", sum := "9a95b2074abe35a7c049679b70df640fe81f57a1f907586885e957f968982296", func := "osier/osierlaw15.AdaptNext", spec := "adaptNext", unfollowed := true, recurses := true, apart := false }
def AdaptNextSaid : Prop := adaptNextRow.holds Try.pinned (OpenSpec.ofChange adaptNextSpec)

/-- ITS FALSE NEIGHBOUR: 'it returns false'. Refute it at one input. -/
def adaptNextWrong : ChangeSpec := { name := "adaptNext", fn := fun _ => fun
  | [d1, d2] => { results := [.lit (.bool false)], args := [d1, d2] }
  | _ => none }
def AdaptNextWrongFalsely : Prop := adaptNextRow.holds Try.pinned (OpenSpec.ofChange adaptNextWrong)

/-- 'osierlaw15.AdaptBends': WHATEVER THE INPUT: true; the input reads as it did. -/
def adaptBendsSpec : ChangeSpec := { name := "adaptBends", fn := fun _ => fun
  | [d1, d2, d3, d4] => { results := [.lit (.bool true)], args := [d1, d2, d3, d4] }
  | _ => none }
def adaptBendsRow : OpenClaim := { program := "yteebceecohhegaa", sum := "9a95b2074abe35a7c049679b70df640fe81f57a1f907586885e957f968982296", func := "osier/osierlaw15.AdaptBends", spec := "adaptBends", unfollowed := true, recurses := true, apart := false }
def AdaptBendsSaid : Prop := adaptBendsRow.holds Try.pinned (OpenSpec.ofChange adaptBendsSpec)

/-- ITS FALSE NEIGHBOUR: 'it returns false'. Refute it at one input. -/
def adaptBendsWrong : ChangeSpec := { name := "adaptBends", fn := fun _ => fun
  | [d1, d2, d3, d4] => { results := [.lit (.bool false)], args := [d1, d2, d3, d4] }
  | _ => none }
def AdaptBendsWrongFalsely : Prop := adaptBendsRow.holds Try.pinned (OpenSpec.ofChange adaptBendsWrong)

/- THE SECOND FORM. 'bulk': how many values and letters a reading holds, each counted each time it is reached (what is shared counts as often as it is met; a slice's spare places count too). A statement '..UptoSaid' is the law's where the arguments, and the package variables that the reading takes, are together of bulk at most 1048576: NARROWER than '..Said'. Prove '..Said' where nothing that the law and all that it calls make is longer than what came in: it says more and counts as full. Else prove '..UptoSaid'. A law counts once. -/
mutual
def uptoBulk {H : Type} : DataW H → Nat
  | .lit (.string bytes) => bytes.length + 1
  | .lit _ => 1
  | .nil => 1
  | .ptr d => uptoBulk d + 1
  | .slice elems spare => uptoBulkAll elems + uptoBulkAll spare + 1
  | .agg parts => uptoBulkAll parts + 1
  | .iface _ d => uptoBulk d + 1
  | .map entries => uptoBulkEntries entries + 1
  | .held _ => 1
def uptoBulkAll {H : Type} : List (DataW H) → Nat
  | [] => 0
  | d :: r => uptoBulk d + uptoBulkAll r
def uptoBulkEntries {H : Type} : List (Lit × DataW H) → Nat
  | [] => 0
  | x :: r => uptoBulkEntry x + uptoBulkEntries r
def uptoBulkEntry {H : Type} : Lit × DataW H → Nat
  | (.string bytes, d) => bytes.length + uptoBulk d + 1
  | (_, d) => uptoBulk d + 1
 end
def uptoSmall : (H : Type) → List (DataW H) → Bool := fun _ ds => decide (uptoBulkAll ds ≤ 1048576)
def OpenSpec.upto (s : _root_.Go.ChangeSpec) : _root_.Go.OpenSpec := { _root_.Go.OpenSpec.ofChange s with cond := some uptoSmall }

/-- 'osierlaw15.AdaptForms', WHERE WHAT IT READS IS OF BULK AT MOST 1048576: true; the input reads as it did. -/
def adaptFormsUptoRow : OpenClaim := { program := "yteebceecohhegaa", sum := "9a95b2074abe35a7c049679b70df640fe81f57a1f907586885e957f968982296", func := "osier/osierlaw15.AdaptForms", spec := "adaptForms", unfollowed := true, recurses := true, apart := false, narrowed := true }
def AdaptFormsUptoSaid : Prop := adaptFormsUptoRow.holds Try.pinned (OpenSpec.upto adaptFormsSpec)

/-- 'osierlaw15.AdaptKeeps', WHERE WHAT IT READS IS OF BULK AT MOST 1048576: true; the input reads as it did. -/
def adaptKeepsUptoRow : OpenClaim := { program := "yteebceecohhegaa", sum := "9a95b2074abe35a7c049679b70df640fe81f57a1f907586885e957f968982296", func := "osier/osierlaw15.AdaptKeeps", spec := "adaptKeeps", unfollowed := true, recurses := true, apart := false, narrowed := true }
def AdaptKeepsUptoSaid : Prop := adaptKeepsUptoRow.holds Try.pinned (OpenSpec.upto adaptKeepsSpec)

/-- 'osierlaw15.AdaptBack', WHERE WHAT IT READS IS OF BULK AT MOST 1048576: true; the input reads as it did. -/
def adaptBackUptoRow : OpenClaim := { program := "yteebceecohhegaa", sum := "9a95b2074abe35a7c049679b70df640fe81f57a1f907586885e957f968982296", func := "osier/osierlaw15.AdaptBack", spec := "adaptBack", unfollowed := true, recurses := true, apart := false, narrowed := true }
def AdaptBackUptoSaid : Prop := adaptBackUptoRow.holds Try.pinned (OpenSpec.upto adaptBackSpec)

/-- 'osierlaw15.AdaptNext', WHERE WHAT IT READS IS OF BULK AT MOST 1048576: true; the input reads as it did. -/
def adaptNextUptoRow : OpenClaim := { program := "yteebceecohhegaa", sum := "9a95b2074abe35a7c049679b70df640fe81f57a1f907586885e957f968982296", func := "osier/osierlaw15.AdaptNext", spec := "adaptNext", unfollowed := true, recurses := true, apart := false, narrowed := true }
def AdaptNextUptoSaid : Prop := adaptNextUptoRow.holds Try.pinned (OpenSpec.upto adaptNextSpec)

/-- 'osierlaw15.AdaptBends', WHERE WHAT IT READS IS OF BULK AT MOST 1048576: true; the input reads as it did. -/
def adaptBendsUptoRow : OpenClaim := { program := "yteebceecohhegaa", sum := "9a95b2074abe35a7c049679b70df640fe81f57a1f907586885e957f968982296", func := "osier/osierlaw15.AdaptBends", spec := "adaptBends", unfollowed := true, recurses := true, apart := false, narrowed := true }
def AdaptBendsUptoSaid : Prop := adaptBendsUptoRow.holds Try.pinned (OpenSpec.upto adaptBendsSpec)

end Rows
end Go.Proofs.Yteebceecohhegaa
