/- osierlaw16.awake; operations and pairs written out as slices; a map that there isn't. No condition: lemmas. -/
import Derived.Test.YtooengicfjcchaaMdR
import Derived.Test.YtooengicfjcchaaLfZ
namespace Go.Proofs.Ytooengicfjcchaa
open Go.RowKit Go.Sort
set_option linter.all false

theorem lit1 (w : World) (k v : Int) : Prs (w.alloc (.cells #[.int .i64 k, .int .i64 v] 28)) (some ⟨w.heap.size, 0, none⟩) 1 [(k, v)] :=
  ⟨Nat.le_refl _, by unfold maxLen; omega, fun n q hq => by
    match n, hq with
    | 0, hq => simp at hq; subst hq; exact ⟨_, 0, rfl, by simp, by simp⟩, fun e => by cases e⟩
theorem lit0 (w : World) : Prs w none 0 [] := Prs.nil w
theorem ops1 (w : World) (o : OpD) (h : o.wf) : Ops (w.alloc (.cells #[.int .i64 o.c, .int .i64 o.k, .int .i64 o.h, .int .i64 o.v] 33)) (some ⟨w.heap.size, 0, none⟩) 1 [o] :=
  ⟨Nat.le_refl _, by unfold maxLen; omega, fun n q hq => by
    match n, hq with
    | 0, hq => simp at hq; subst hq; exact ⟨_, 0, rfl, by simp, by simp, by simp, by simp⟩, fun q hq => by simp at hq; subst hq; exact h⟩
theorem ops2 (w : World) (o p : OpD) (h : o.wf) (h2 : p.wf) : Ops (w.alloc (.cells #[.int .i64 o.c, .int .i64 o.k, .int .i64 o.h, .int .i64 o.v, .int .i64 p.c, .int .i64 p.k, .int .i64 p.h, .int .i64 p.v] 33)) (some ⟨w.heap.size, 0, none⟩) 2 [o, p] :=
  ⟨Nat.le_refl _, by unfold maxLen; omega, fun n q hq => by
    match n, hq with
    | 0, hq => simp at hq; subst hq; exact ⟨_, 0, rfl, by simp, by simp, by simp, by simp⟩
    | 1, hq => simp at hq; subst hq; exact ⟨_, 0, rfl, by simp, by simp, by simp, by simp⟩, fun q hq => by simp at hq; rcases hq with rfl | rfl <;> assumption⟩
theorem ops3 (w : World) (o p r : OpD) (h : o.wf) (h2 : p.wf) (h3 : r.wf) : Ops (w.alloc (.cells #[.int .i64 o.c, .int .i64 o.k, .int .i64 o.h, .int .i64 o.v, .int .i64 p.c, .int .i64 p.k, .int .i64 p.h, .int .i64 p.v, .int .i64 r.c, .int .i64 r.k, .int .i64 r.h, .int .i64 r.v] 33)) (some ⟨w.heap.size, 0, none⟩) 3 [o, p, r] :=
  ⟨Nat.le_refl _, by unfold maxLen; omega, fun n q hq => by
    match n, hq with
    | 0, hq => simp at hq; subst hq; exact ⟨_, 0, rfl, by simp, by simp, by simp, by simp⟩
    | 1, hq => simp at hq; subst hq; exact ⟨_, 0, rfl, by simp, by simp, by simp, by simp⟩
    | 2, hq => simp at hq; subst hq; exact ⟨_, 0, rfl, by simp, by simp, by simp, by simp⟩, fun q hq => by simp at hq; rcases hq with rfl | rfl | rfl <;> assumption⟩
theorem ops4 (w : World) (o p r s : OpD) (h : o.wf) (h2 : p.wf) (h3 : r.wf) (h4 : s.wf) : Ops (w.alloc (.cells #[.int .i64 o.c, .int .i64 o.k, .int .i64 o.h, .int .i64 o.v, .int .i64 p.c, .int .i64 p.k, .int .i64 p.h, .int .i64 p.v, .int .i64 r.c, .int .i64 r.k, .int .i64 r.h, .int .i64 r.v, .int .i64 s.c, .int .i64 s.k, .int .i64 s.h, .int .i64 s.v] 33)) (some ⟨w.heap.size, 0, none⟩) 4 [o, p, r, s] :=
  ⟨Nat.le_refl _, by unfold maxLen; omega, fun n q hq => by
    match n, hq with
    | 0, hq => simp at hq; subst hq; exact ⟨_, 0, rfl, by simp, by simp, by simp, by simp⟩
    | 1, hq => simp at hq; subst hq; exact ⟨_, 0, rfl, by simp, by simp, by simp, by simp⟩
    | 2, hq => simp at hq; subst hq; exact ⟨_, 0, rfl, by simp, by simp, by simp, by simp⟩
    | 3, hq => simp at hq; subst hq; exact ⟨_, 0, rfl, by simp, by simp, by simp, by simp⟩, fun q hq => by simp at hq; rcases hq with rfl | rfl | rfl | rfl <;> assumption⟩
theorem al1 {w : World} (o : Obj) : Below w.heap.size w (w.alloc o) := (Below.refl _ _).alloc (Nat.le_refl _) _

theorem mdo_nil (c k hi v : Int) (w : World) : Calls Try.prog 14 #[.pointer none, .agg #[.int .i64 c, .int .i64 k, .int .i64 hi, .int .i64 v]] w fun e w' => e = .returned (.agg #[.int .i64 1, .bool false, .int .i64 0, .int .i64 0, .int .i64 0, .slice none 0 0]) ∧ Below w.heap.size w w' := by
  have ba : Below w.heap.size w ((w.alloc (.cells #[.int .i64 c, .int .i64 k, .int .i64 hi, .int .i64 v] 33)).alloc (.cells #[.int .i64 1, .bool false, .int .i64 0, .int .i64 0, .int .i64 0, .slice none 0 0] 36)) := ((Below.refl _ _).alloc (Nat.le_refl _) _).alloc (by simp) _
  go_enter Try.func14, Try.ntmps14
  go_wp2_with (fail)
  refine bodyPost_ret (v := .agg #[.int .i64 1, .bool false, .int .i64 0, .int .i64 0, .int .i64 0, .slice none 0 0]) (by simp [results, Try.results14, go_sem]) rfl ⟨rfl, ?_⟩
  exact ba
theorem mrun_nil (a : Option Addr) (n cap : Nat) (w : World) : Calls Try.prog 15 #[.pointer none, .slice a n cap] w fun e w' => e = .returned (.slice none 0 0) ∧ w' = w := by
  go_enter Try.func15, Try.ntmps15
  go_wp2_with (fail)
  go_ret
  exact ⟨rfl, rfl⟩

theorem ea0 : putsL [(1, 5)] = [(1, 5)] := by decide
theorem ea1 : doP [(1, 5)] 1 1 6 = [(1, 6)] := by decide
theorem ea2 : doP [(1, 6)] 4 1 0 = [(1, 6)] := by decide
theorem ea3 : doA [(1, 5)] 1 1 0 = ⟨0, true, 1, 5, 0, []⟩ := by
  rw [doA_had (by decide) (by decide) 1 0 (by decide)]
  unfold hadD
  rw [show hadL [(1, 5)] 1 = (true, 1, 5) by decide]
theorem ea4 : doA [(1, 6)] 4 1 0 = ⟨0, true, 1, 6, 0, []⟩ := by
  rw [doA_had (by decide) (by decide) 1 0 (by decide)]
  unfold hadD
  rw [show hadL [(1, 6)] 1 = (true, 1, 6) by decide]
theorem ea5 : runP [(1, 5)] [⟨1, 1, 0, 6⟩, ⟨4, 1, 0, 0⟩] = [(1, 6)] := by
  show doP (doP [(1, 5)] 1 1 6) 4 1 0 = _
  rw [ea1, ea2]
theorem ea6 : runA [(1, 5)] [⟨1, 1, 0, 6⟩, ⟨4, 1, 0, 0⟩] = [⟨0, true, 1, 5, 0, []⟩, ⟨0, true, 1, 6, 0, []⟩] := by
  show [doA [(1, 5)] 1 1 0, doA (doP [(1, 5)] 1 1 6) 4 1 0] = _
  rw [ea1, ea3, ea4]
theorem wfa : OpD.wf ⟨1, 1, 0, 6⟩ := ⟨by decide, by decide, by decide, by decide⟩
theorem wfb : OpD.wf ⟨4, 1, 0, 0⟩ := ⟨by decide, by decide, by decide, by decide⟩
/-- A map of one pair, made. -/
theorem ea_new (W : World) (a : Option Addr) (cap : Nat) (h : Prs W a cap [(1, 5)]) : Calls Try.prog 10 #[.slice a 1 cap] W (NewIs W [(1, 5)]) := by
  have c := new_any a cap [(1, 5)] W h (by decide)
  rwa [ea0] at c
theorem ea_run (W : World) (b : Nat) (S : Nat → Prop) (a : Option Addr) (cap : Nat) (h : MapAt W S b [(1, 5)]) (hS : ∀ j, S j → j < W.heap.size) (hz : Ops W a cap [⟨1, 1, 0, 6⟩, ⟨4, 1, 0, 0⟩]) (hne : ∀ ad, a = some ad → ¬ ad.block = b) :
    Calls Try.prog 15 #[.pointer (some ⟨b, 0, none⟩), .slice a 2 cap] W fun e w' => e = .returned (.slice (some ⟨W.heap.size, 0, none⟩) 2 2) ∧ w'.cell? ⟨W.heap.size, 3, none⟩ = some (.int .i64 5) ∧ w'.cell? ⟨W.heap.size, 9, none⟩ = some (.int .i64 6) ∧ MapAt w' S b [(1, 6)] ∧ Only (fun k => k = b) W w' :=
  (mrun_any b S [(1, 5)] a cap [⟨1, 1, 0, 6⟩, ⟨4, 1, 0, 0⟩] W h hS hz hne (by decide) (by decide)).mono (fun e w' hh => by
    unfold RunIs at hh
    rw [ea5, ea6] at hh
    obtain ⟨rfl, hT, hM, hO⟩ := hh
    obtain ⟨_, _, A0⟩ := hT.at_ 0 _ rfl (by decide)
    obtain ⟨_, _, A1⟩ := hT.at_ 1 _ rfl (by decide)
    exact ⟨rfl, A0.c3, A1.c3, hM, hO⟩)

set_option maxRecDepth 100000 in
set_option maxHeartbeats 6400000 in
theorem awake_any (w : World) : Calls Try.prog 9 #[] w fun e w' => e = .returned (.bool true) ∧ Below w.heap.size w w' := by
  go_enter Try.func9, Try.ntmps9
  go_wp2_with (first
    | (go_at_call 10; ((with_reducible refine (ea_new _ _ _ (lit1 w 1 5)).mono ?_); rintro e w1 ⟨b, rfl, hb0, hM, hB⟩; have HB0 : Hid (w.heap.size ≤ b) := Lib.hid (Nat.le_trans (al1 _).size hb0); have HS : Hid (∀ (o : Obj) j, (j < (w.alloc (.cells #[.int .i64 1, .int .i64 5] 28)).heap.size ∨ j = b) → j < (w1.alloc o).heap.size) := Lib.hid (fun o j hj => by have h1 := hM.lt; have h2 := hB.size; have h3 : (w1.alloc o).heap.size = w1.heap.size + 1 := (by simp); rcases hj with hj | hj <;> omega); have HNE : Hid (∀ ad : Addr, some (⟨w1.heap.size, 0, none⟩ : Addr) = some ad → ¬ ad.block = b) := Lib.hid (fun ad e => by cases e; have h1 := hM.lt; show ¬ w1.heap.size = b; omega); have HM := Lib.hid hM; have HB := Lib.hid ((al1 _).trans (hB.mono (al1 _).size)); clear hb0 hM hB))
    | (go_at_call 15; ((with_reducible refine (ea_run _ b _ _ _ (HM.out.below (al1 _)) (HS.out _) (ops2 w1 ⟨1, 1, 0, 6⟩ ⟨4, 1, 0, 0⟩ wfa wfb) HNE.out).mono ?_); rintro e w2 ⟨rfl, q0, q1, hM2, hO2⟩; (simp only [World.size_alloc] at q0 q1); have HM2 := Lib.hid hM2; have HO2 := Lib.hid hO2; clear hM2 hO2))
    | (go_at_call 18; ((with_reducible refine (mlen_any b _ [(1, 6)] _ HM2.out).mono ?_); rintro e w3 ⟨rfl, rfl⟩)))
  go_ret
  exact ⟨rfl, (bel1 HB.out _).trans (HO2.out.below (fun i hi => by rw [hi]; exact HB0.out) (bel1 HB.out _).size)⟩
end Go.Proofs.Ytooengicfjcchaa
