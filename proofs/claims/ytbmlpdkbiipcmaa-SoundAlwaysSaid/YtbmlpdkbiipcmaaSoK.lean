/- The keys of sound's maps: ints, and what a node says. -/
import Derived.Test.YtbmlpdkbiipcmaaSoM
import Derived.Maps.OwnSet
import Derived.DeepKeys4
namespace Go.Proofs.Ytbmlpdkbiipcmaa
open Go.RowKit Go.Maps
set_option linter.all false

theorem mI_under : Try.prog.underlying 71 = some (.map 3 3) := by kernel_rfl
theorem mS_under : Try.prog.underlying 72 = some (.map 87 3) := by kernel_rfl
theorem int_under : Try.prog.underlying 3 = some (.int .i64) := by kernel_rfl
theorem zeroI (w : World) : (zeroValue 3).run Try.prog w = .ok (.int .i64 0) w := by kernel_rfl
theorem laidOut : laidOutB Try.prog = true := by kernel_rfl
theorem lawI : Keyed Try.prog 3 := int_keyed int_under
theorem wideS : (match Try.prog.underlying 87 with | some (.array _ _) | some (.struct _) => true | _ => false) = true := by kernel_rfl
theorem keyS : Try.prog.keyTypeAt 4 87 = true := by kernel_rfl
theorem rowS' : decide ((87 : Nat) < Try.prog.types.size) = true := by kernel_rfl
theorem lawS : Keyed Try.prog 87 := Keyed.of_law (deep_law_laid laidOut (m := 4) (by omega) (of_decide_eq_true rowS') keyS wideS)

theorem sayS_under : Try.prog.underlying 87 = some (.struct #[⟨"pair", 24, 0, false, "", "osier/sound", 0⟩, ⟨"left", 3, 2, false, "", "osier/sound", 16⟩, ⟨"right", 3, 3, false, "", "osier/sound", 24⟩]) := by kernel_rfl
theorem pairS_under : Try.prog.underlying 24 = some (.struct #[⟨"Key", 3, 0, false, "", "", 0⟩, ⟨"Val", 3, 1, false, "", "", 8⟩]) := by kernel_rfl
theorem cellsS : Try.prog.cellsOf 87 = 4 ∧ Try.prog.cellsOf 24 = 2 ∧ Try.prog.cellsOf 3 = 1 := ⟨by kernel_rfl, by kernel_rfl, by kernel_rfl⟩
theorem keyTypeS : Try.prog.keyType 87 = true := by kernel_rfl
theorem formedS (a b c d : Int) : (Value.agg #[.int .i64 a, .int .i64 b, .int .i64 c, .int .i64 d]).formed Try.prog 87 = true := by kernel_rfl
theorem sizeS : ∃ n, Try.prog.types.size + 1 = n + 3 := ⟨Try.prog.types.size - 2, by have := of_decide_eq_true rowS'; omega⟩
theorem key_say (a b c d : Int) (ha : (Lit.int .i64 a).wf = true) (hb : (Lit.int .i64 b).wf = true) (hc : (Lit.int .i64 c).wf = true) (hd : (Lit.int .i64 d).wf = true) :
    ∃ l, keyOf Try.prog 87 (.agg #[.int .i64 a, .int .i64 b, .int .i64 c, .int .i64 d]) = some l := by
  obtain ⟨n, hn⟩ := sizeS
  unfold keyOf
  rw [sayS_under, keyTypeS, formedS, hn]
  simp [Program.keyLits, sayS_under, pairS_under, int_under, cellsS.1, cellsS.2.1, cellsS.2.2, Value.cells, ha, hb, hc, hd]
  rw [if_pos (fun i hi => by
    match i, hi with
    | 0, _ => simp
    | 1, _ => simp)]
  exact ⟨_, rfl⟩
end Go.Proofs.Ytbmlpdkbiipcmaa
