/- PastOrder (P18.3): of the calls of a history that may be and can be gone through: none is before itself, no two are before one another, who is before one that is before a third is before that; of two calls of one thread that began at unlike places exactly one is before the other; each began at a place of the history that is no return, each later one later, and what has returned returned at a return behind where it began. No condition. -/
import Derived.Test.YtijepfabkalcoaaRows
import Derived.Test.YtijepfabkalcoaaPaE
import Derived.LoopTactic
import Derived.WalkKit
import Derived.ProofKit
import Derived.OpenShut
import Derived.ChangeOld
import Derived.Below
namespace Go.Proofs.Ytijepfabkalcoaa.pastOrder
open Go.ChangeShapes Go.WideShapes Go.ChangeAt Go.RowKit
set_option linter.all false

theorem own : ownKnob Try.prog.godebug = none := by kernel_rfl
theorem laidOut : laidOutB Try.prog = true := by kernel_rfl

theorem wrapU64O (a : Int) : IntKind.u64.wrap a = a % 18446744073709551616 := by first | rfl | simp [IntKind.wrap]
/-- int(uint64(a) % uint64(d)). -/
theorem umodO (a d : Int) (h : 0 < d) (h2 : d ≤ 9223372036854775807) : ∃ m : Nat, (m : Int) < d ∧ wrap64 ((IntKind.u64.wrap a).tmod d) = m := by
  have h0 : 0 ≤ a % 18446744073709551616 := Int.emod_nonneg _ (by decide)
  have h1 := Int.emod_nonneg (a % 18446744073709551616) (show d ≠ 0 by omega)
  have h3 := Int.emod_lt_of_pos (a % 18446744073709551616) h
  refine ⟨((a % 18446744073709551616) % d).toNat, by omega, ?_⟩
  rw [wrapU64O, Int.tmod_eq_emod_of_nonneg h0]
  unfold wrap64
  omega
/-- Cells of a block written one after the other. -/
def stC (W : World) (g : Nat) : Nat → List Value → World
  | _, [] => W
  | k, v :: l => stC (W.setCell ⟨g, k, none⟩ v) g (k + 1) l
theorem stC_other {b g : Nat} {vs : List Value} (hne : g ≠ b) : ∀ (l : List Value) (k : Nat) (W : World), Bq W b vs → Bq (stC W g k l) b vs := by
  intro l
  induction l with
  | nil => intro k W h; exact h
  | cons v l ih => intro k W h; exact ih _ _ (h.other v hne)
theorem stC_same {g : Nat} : ∀ (l : List Value) (k : Nat) (W : World) (vs : List Value), Bq W g vs → vs.length = k + l.length → Bq (stC W g k l) g (vs.take k ++ l) := by
  intro l
  induction l with
  | nil =>
    intro k W vs h e
    rw [List.append_nil, List.take_of_length_le (by simp at e; omega)]; exact h
  | cons v l ih =>
    intro k W vs h e
    simp only [List.length_cons] at e
    have := ih (k + 1) _ _ (h.set k v (by omega)) (by rw [List.length_set]; omega)
    have e2 : (vs.set k v).take (k + 1) ++ l = vs.take k ++ v :: l := by
      rw [List.take_add_one, List.getElem?_set_self (by omega), List.take_set_of_le (Nat.le_refl _)]
      simp
    rw [e2] at this
    exact this
theorem stC_below {w0 : World} {g : Nat} (hg : w0.heap.size ≤ g) : ∀ (l : List Value) (k : Nat) (W : World), Below w0.heap.size w0 W → Below w0.heap.size w0 (stC W g k l) := by
  intro l
  induction l with
  | nil => intro k W h; exact h
  | cons v l ih => intro k W h; exact ih _ _ (Below.setCell h hg _)

open List renaming getElem_toArray → ga, getElem_cons_succ → gb, getElem_cons_zero → gc, setIfInBounds_toArray → gs, set_cons_zero → gd, set_cons_succ → ge
set_option maxRecDepth 100000 in
set_option maxHeartbeats 200000000 in
theorem walk (a0 : Option Addr) (cap0 : Nat) (z0 : List EvD) (a1 : Int) (a2 : Int) (a3 : Int) (w : World) (w0 : Es w a0 cap0 z0) (s0 : MidE z0) (w1 : (Lit.int .i64 a1).wf = true) (w2 : (Lit.int .i64 a2).wf = true) (w3 : (Lit.int .i64 a3).wf = true) :
  Calls Try.prog 4 #[.slice a0 z0.length cap0, .int .i64 a1, .int .i64 a2, .int .i64 a3] w fun e w' => e = .returned (.bool true) ∧ Below w.heap.size w w' := by
 clear w1 w2 w3
 have hlg := light_anyE a0 cap0 z0 w w0 s0
 have ca := fun W (hb : Below w.heap.size w W) => pawake_any W
 by_cases hL : LgtE z0
 rotate_left
 ·have cl := hlg 1 (fun h => absurd h hL) (fun _ => rfl)
  clear hlg hL
  go_enter Try.func4, Try.ntmps4
  go_wp2_with (first
   | (go_at_call 20; ((with_reducible refine cl.mono ?_); clear cl; rintro e w1 ⟨rfl, hb1⟩; have HB1 := Lib.hid hb1; clear hb1))
   | (go_at_call 23; ((with_reducible refine (ca _ HB1.out).mono ?_); clear ca; rintro e wa ⟨rfl, hba⟩; have HBa := Lib.hid (pb2 HB1.out hba); clear hba))
   | fail)
  go_ret
  exact ⟨by simp, HBa.out⟩
 have cl := hlg 0 (fun _ => rfl) (fun h => absurd hL h)
 have hN3 : z0.length ≤ 300 := Nat.le_trans hL.1 (by decide)
 have hps : ∀ e ∈ z0, e.a.ps.length ≤ 1100000 := fun e he => Nat.le_trans (hL.ps e he) (by decide)
 have cm0 := fun W (hb : Below w.heap.size w W) => may_anyP a0 cap0 z0 W (w0.keep hb) hN3
 have cr0 := fun W (hb : Below w.heap.size w W) => rmaypast_any a0 cap0 z0 W (w0.keep hb) hN3
 have cc0 := fun W (hb : Below w.heap.size w W) => calls_any a0 cap0 z0 W (w0.keep hb) hN3 hps
 have HW := Lib.hid w0
 have hz1 := w0.1
 have hz2 := w0.2.1
 unfold maxLen at hz2
 have hnn := hL.1
 clear hlg hL w0 s0 hps
 cases hm : mtch z0 with
 | none =>
  have cm := fun W hb => cm0 W hb false (by rw [hm]; rfl)
  clear cm0 cr0 cc0 hm
  go_enter Try.func4, Try.ntmps4
  go_wp2_with (first
   | (go_at_call 20; ((with_reducible refine cl.mono ?_); clear cl; rintro e w1 ⟨rfl, hb1⟩; have HB1 := Lib.hid hb1; clear hb1))
   | (go_at_call 21; ((with_reducible refine (cm _ HB1.out).mono ?_); clear cm; rintro e w2 ⟨rfl, hb2⟩; have HB2 := Lib.hid (pb2 HB1.out hb2); clear hb2))
   | (go_at_call 23; ((with_reducible refine (ca _ HB2.out).mono ?_); clear ca; rintro e wa ⟨rfl, hba⟩; have HBa := Lib.hid (pb2 HB2.out hba); clear hba))
   | fail)
  go_ret
  exact ⟨by simp, HBa.out⟩
 | some s1 =>
 have cm := fun W hb => cm0 W hb true (by rw [hm]; rfl)
 rw [hm] at cr0
 dsimp only [Option.isSome] at cr0
 have cr := cr0
 have cc := fun W hb => cc0 W hb s1.l (by unfold callsL; rw [hm])
 clear cm0 cr0 cc0
 by_cases hz : z0.length = 0
 ·clear cc hm
  rw [hz] at cl cm cr ⊢
  go_enter Try.func4, Try.ntmps4
  go_wp2_with (first
   | (go_at_call 20; ((with_reducible refine cl.mono ?_); clear cl; rintro e w1 ⟨rfl, hb1⟩; have HB1 := Lib.hid hb1; clear hb1))
   | (go_at_call 21; ((with_reducible refine (cm _ HB1.out).mono ?_); clear cm; rintro e w2 ⟨rfl, hb2⟩; have HB2 := Lib.hid (pb2 HB1.out hb2); clear hb2))
   | (go_at_call 22; ((with_reducible refine (cr _ HB2.out).mono ?_); clear cr; rintro e w3 ⟨rfl, hb3⟩; have HB3 := Lib.hid (pb2 HB2.out hb3); clear hb3))
   | (go_at_call 23; ((with_reducible refine (ca _ HB3.out).mono ?_); clear ca; rintro e wa ⟨rfl, hba⟩; have HBa := Lib.hid (pb2 HB3.out hba); clear hba))
   | fail)
  go_ret
  exact ⟨by simp, HBa.out⟩
 have hI := minv z0 _ s1 hm
 have hl0 : s1.l.length ≠ 0 := fun e => hz (hI.ne e)
 have hl1 : s1.l.length ≤ 200 := by rw [hI.nb]; exact Nat.le_trans (cnt_le z0 _).1 hnn
 have hzq : ((z0.length : Int) == 0) = false := by simpa using hz
 have hlq : ((s1.l.length : Int) == 0) = false := by simpa using hl0
 obtain ⟨x, hx, hux⟩ := umodO a1 (s1.l.length : Int) (by omega) (by omega)
 obtain ⟨y, hy, huy⟩ := umodO a2 (s1.l.length : Int) (by omega) (by omega)
 obtain ⟨z, hzz, huz⟩ := umodO a3 (s1.l.length : Int) (by omega) (by omega)
 have hwl : IntKind.u64.wrap (s1.l.length : Int) = (s1.l.length : Int) := by rw [wrapU64O]; omega
 have hdz : ¬ (s1.l.length : Int) = 0 := by omega
 have hln : ¬ s1.l = [] := fun e => hl0 (by rw [e]; rfl)
 have HI := Lib.hid hI
 have HM := Lib.hid hm
 have HUX := Lib.hid (And.intro hux (And.intro huy huz))
 have HWL := Lib.hid hwl
 clear hI hm hux huy huz hwl
 obtain ⟨l, hl⟩ : ∃ l, s1.l = l := ⟨_, rfl⟩
 rw [hl] at hln cc hl0 hl1 hlq hx hy hzz hdz HUX HWL
 obtain ⟨cA, hcA⟩ : ∃ c, l[x]? = some c := ⟨_, List.getElem?_eq_getElem (by omega)⟩
 obtain ⟨cB, hcB⟩ : ∃ c, l[y]? = some c := ⟨_, List.getElem?_eq_getElem (by omega)⟩
 obtain ⟨cD, hcD⟩ : ∃ c, l[z]? = some c := ⟨_, List.getElem?_eq_getElem (by omega)⟩
 have HLL := Lib.hid hl
 have HA := Lib.hid hcA
 have HBq := Lib.hid hcB
 have HD := Lib.hid hcD
 clear hl hcA hcB hcD hz hl0
 go_enter Try.func4, Try.ntmps4
 go_wp2_with (first
  | (go_at_call 20; ((with_reducible refine cl.mono ?_); clear cl; rintro e w1 ⟨rfl, hb1⟩; have HB1 := Lib.hid hb1; clear hb1))
  | (go_at_call 21; ((with_reducible refine (cm _ HB1.out).mono ?_); clear cm; rintro e w2 ⟨rfl, hb2⟩; have HB2 := Lib.hid (pb2 HB1.out hb2); clear hb2))
  | (go_at_call 22; ((with_reducible refine (cr _ HB2.out).mono ?_); clear cr; rintro e w3 ⟨rfl, hb3⟩; have HB3 := Lib.hid (pb2 HB2.out hb3); clear hb3))
  | (go_at_call 24; ((with_reducible refine (cc _ HB3.out).mono ?_); clear cc; rintro e w4 ⟨la, lc, rfl, hcs, hb4⟩; have HC := Lib.hid hcs; have HB4 := Lib.hid (pb2 HB3.out hb4); clear hb4 hcs))
  | fail)
 have hq1 := HC.out.1
 have hq2 := HC.out.2.1
 unfold maxLen at hq2
 obtain ⟨b, o, pa1, pc1, rfl, hca⟩ := HC.out.2.2 x cA HA.out
 obtain ⟨b', o', pa2, pc2, he2, hcb⟩ := HC.out.2.2 y cB HBq.out
 cases he2
 obtain ⟨b', o', pa3, pc3, he3, hcd⟩ := HC.out.2.2 z cD HD.out
 cases he3
 obtain ⟨c0, c1, c2, c3, c4, c5, c6, c7, c8, c9, c10, c11, c12⟩ := hca.ex
 obtain ⟨d0, d1, d2, d3, d4, d5, d6, d7, d8, d9, d10, d11, d12⟩ := hcb.ex
 obtain ⟨e0, e1, e2, e3, e4, e5, e6, e7, e8, e9, e10, e11, e12⟩ := hcd.ex
 have hx0 : (0 : Int) ≤ (x : Int) := Int.natCast_nonneg x
 have hy0 : (0 : Int) ≤ (y : Int) := Int.natCast_nonneg y
 have hz0 : (0 : Int) ≤ (z : Int) := Int.natCast_nonneg z
 obtain ⟨t1, f1, g1, ⟨oc1, ok1, oh1, ov1⟩, ⟨ae1, ao1, ak1, av1, an1, ap1⟩⟩ := cA
 obtain ⟨t2, f2, g2, ⟨oc2, ok2, oh2, ov2⟩, ⟨ae2, ao2, ak2, av2, an2, ap2⟩⟩ := cB
 obtain ⟨t3, f3, g3, ⟨oc3, ok3, oh3, ov3⟩, ⟨ae3, ao3, ak3, av3, an3, ap3⟩⟩ := cD
 dsimp only at c0 c1 c2 c3 c4 c5 c6 c7 c8 c9 c10 c11 c12 d0 d1 d2 d3 d4 d5 d6 d7 d8 d9 d10 d11 d12 e0 e1 e2 e3 e4 e5 e6 e7 e8 e9 e10 e11 e12
 clear hca hcb hcd
 have hux := HUX.out.1
 have huy := HUX.out.2.1
 have huz := HUX.out.2.2
 have hux' := (wrapEqP _).trans hux
 have huy' := (wrapEqP _).trans huy
 have huz' := (wrapEqP _).trans huz
 go_cut [11, 12, 13] from 42 to 65 (fun v1 v2 v3 wx => ∃ (q1 q2 q3 : Nat), v1 = .pointer (some ⟨q1, 0, none⟩) ∧ v2 = .pointer (some ⟨q2, 0, none⟩) ∧ v3 = .pointer (some ⟨q3, 0, none⟩) ∧ Bq wx q1 [.int .i64 t1, .int .i64 f1, .int .i64 g1, .int .i64 oc1, .int .i64 ok1, .int .i64 oh1, .int .i64 ov1, .int .i64 ae1, .bool ao1, .int .i64 ak1, .int .i64 av1, .int .i64 an1, .slice pa1 ap1.length pc1] ∧ Bq wx q2 [.int .i64 t2, .int .i64 f2, .int .i64 g2, .int .i64 oc2, .int .i64 ok2, .int .i64 oh2, .int .i64 ov2, .int .i64 ae2, .bool ao2, .int .i64 ak2, .int .i64 av2, .int .i64 an2, .slice pa2 ap2.length pc2] ∧ Bq wx q3 [.int .i64 t3, .int .i64 f3, .int .i64 g3, .int .i64 oc3, .int .i64 ok3, .int .i64 oh3, .int .i64 ov3, .int .i64 ae3, .bool ao3, .int .i64 ak3, .int .i64 av3, .int .i64 an3, .slice pa3 ap3.length pc3] ∧ Below w4.heap.size w4 wx)
 case first =>
   have KP := Lib.hid (show ∀ W, Below w4.heap.size w4 W → (fun W => W.cell? ⟨b, o + x * 13, none⟩ = some (.int .i64 t1) ∧ W.cell? ⟨b, o + x * 13 + 1, none⟩ = some (.int .i64 f1) ∧ W.cell? ⟨b, o + x * 13 + 2, none⟩ = some (.int .i64 g1) ∧ W.cell? ⟨b, o + x * 13 + 3, none⟩ = some (.int .i64 oc1) ∧ W.cell? ⟨b, o + x * 13 + 4, none⟩ = some (.int .i64 ok1) ∧ W.cell? ⟨b, o + x * 13 + 5, none⟩ = some (.int .i64 oh1) ∧ W.cell? ⟨b, o + x * 13 + 6, none⟩ = some (.int .i64 ov1) ∧ W.cell? ⟨b, o + x * 13 + 7, none⟩ = some (.int .i64 ae1) ∧ W.cell? ⟨b, o + x * 13 + 8, none⟩ = some (.bool ao1) ∧ W.cell? ⟨b, o + x * 13 + 9, none⟩ = some (.int .i64 ak1) ∧ W.cell? ⟨b, o + x * 13 + 10, none⟩ = some (.int .i64 av1) ∧ W.cell? ⟨b, o + x * 13 + 11, none⟩ = some (.int .i64 an1) ∧ W.cell? ⟨b, o + x * 13 + 12, none⟩ = some (.slice pa1 ap1.length pc1) ∧ W.cell? ⟨b, o + y * 13, none⟩ = some (.int .i64 t2) ∧ W.cell? ⟨b, o + y * 13 + 1, none⟩ = some (.int .i64 f2) ∧ W.cell? ⟨b, o + y * 13 + 2, none⟩ = some (.int .i64 g2) ∧ W.cell? ⟨b, o + y * 13 + 3, none⟩ = some (.int .i64 oc2) ∧ W.cell? ⟨b, o + y * 13 + 4, none⟩ = some (.int .i64 ok2) ∧ W.cell? ⟨b, o + y * 13 + 5, none⟩ = some (.int .i64 oh2) ∧ W.cell? ⟨b, o + y * 13 + 6, none⟩ = some (.int .i64 ov2) ∧ W.cell? ⟨b, o + y * 13 + 7, none⟩ = some (.int .i64 ae2) ∧ W.cell? ⟨b, o + y * 13 + 8, none⟩ = some (.bool ao2) ∧ W.cell? ⟨b, o + y * 13 + 9, none⟩ = some (.int .i64 ak2) ∧ W.cell? ⟨b, o + y * 13 + 10, none⟩ = some (.int .i64 av2) ∧ W.cell? ⟨b, o + y * 13 + 11, none⟩ = some (.int .i64 an2) ∧ W.cell? ⟨b, o + y * 13 + 12, none⟩ = some (.slice pa2 ap2.length pc2) ∧ W.cell? ⟨b, o + z * 13, none⟩ = some (.int .i64 t3) ∧ W.cell? ⟨b, o + z * 13 + 1, none⟩ = some (.int .i64 f3) ∧ W.cell? ⟨b, o + z * 13 + 2, none⟩ = some (.int .i64 g3) ∧ W.cell? ⟨b, o + z * 13 + 3, none⟩ = some (.int .i64 oc3) ∧ W.cell? ⟨b, o + z * 13 + 4, none⟩ = some (.int .i64 ok3) ∧ W.cell? ⟨b, o + z * 13 + 5, none⟩ = some (.int .i64 oh3) ∧ W.cell? ⟨b, o + z * 13 + 6, none⟩ = some (.int .i64 ov3) ∧ W.cell? ⟨b, o + z * 13 + 7, none⟩ = some (.int .i64 ae3) ∧ W.cell? ⟨b, o + z * 13 + 8, none⟩ = some (.bool ao3) ∧ W.cell? ⟨b, o + z * 13 + 9, none⟩ = some (.int .i64 ak3) ∧ W.cell? ⟨b, o + z * 13 + 10, none⟩ = some (.int .i64 av3) ∧ W.cell? ⟨b, o + z * 13 + 11, none⟩ = some (.int .i64 an3) ∧ W.cell? ⟨b, o + z * 13 + 12, none⟩ = some (.slice pa3 ap3.length pc3) ∧ Below w4.heap.size w4 W) W from fun W h => ⟨pkc h c0, pkc h c1, pkc h c2, pkc h c3, pkc h c4, pkc h c5, pkc h c6, pkc h c7, pkc h c8, pkc h c9, pkc h c10, pkc h c11, pkc h c12, pkc h d0, pkc h d1, pkc h d2, pkc h d3, pkc h d4, pkc h d5, pkc h d6, pkc h d7, pkc h d8, pkc h d9, pkc h d10, pkc h d11, pkc h d12, pkc h e0, pkc h e1, pkc h e2, pkc h e3, pkc h e4, pkc h e5, pkc h e6, pkc h e7, pkc h e8, pkc h e9, pkc h e10, pkc h e11, pkc h e12, h⟩)
   refine wp_region_held_drew (S := fun W => W.cell? ⟨b, o + x * 13, none⟩ = some (.int .i64 t1) ∧ W.cell? ⟨b, o + x * 13 + 1, none⟩ = some (.int .i64 f1) ∧ W.cell? ⟨b, o + x * 13 + 2, none⟩ = some (.int .i64 g1) ∧ W.cell? ⟨b, o + x * 13 + 3, none⟩ = some (.int .i64 oc1) ∧ W.cell? ⟨b, o + x * 13 + 4, none⟩ = some (.int .i64 ok1) ∧ W.cell? ⟨b, o + x * 13 + 5, none⟩ = some (.int .i64 oh1) ∧ W.cell? ⟨b, o + x * 13 + 6, none⟩ = some (.int .i64 ov1) ∧ W.cell? ⟨b, o + x * 13 + 7, none⟩ = some (.int .i64 ae1) ∧ W.cell? ⟨b, o + x * 13 + 8, none⟩ = some (.bool ao1) ∧ W.cell? ⟨b, o + x * 13 + 9, none⟩ = some (.int .i64 ak1) ∧ W.cell? ⟨b, o + x * 13 + 10, none⟩ = some (.int .i64 av1) ∧ W.cell? ⟨b, o + x * 13 + 11, none⟩ = some (.int .i64 an1) ∧ W.cell? ⟨b, o + x * 13 + 12, none⟩ = some (.slice pa1 ap1.length pc1) ∧ W.cell? ⟨b, o + y * 13, none⟩ = some (.int .i64 t2) ∧ W.cell? ⟨b, o + y * 13 + 1, none⟩ = some (.int .i64 f2) ∧ W.cell? ⟨b, o + y * 13 + 2, none⟩ = some (.int .i64 g2) ∧ W.cell? ⟨b, o + y * 13 + 3, none⟩ = some (.int .i64 oc2) ∧ W.cell? ⟨b, o + y * 13 + 4, none⟩ = some (.int .i64 ok2) ∧ W.cell? ⟨b, o + y * 13 + 5, none⟩ = some (.int .i64 oh2) ∧ W.cell? ⟨b, o + y * 13 + 6, none⟩ = some (.int .i64 ov2) ∧ W.cell? ⟨b, o + y * 13 + 7, none⟩ = some (.int .i64 ae2) ∧ W.cell? ⟨b, o + y * 13 + 8, none⟩ = some (.bool ao2) ∧ W.cell? ⟨b, o + y * 13 + 9, none⟩ = some (.int .i64 ak2) ∧ W.cell? ⟨b, o + y * 13 + 10, none⟩ = some (.int .i64 av2) ∧ W.cell? ⟨b, o + y * 13 + 11, none⟩ = some (.int .i64 an2) ∧ W.cell? ⟨b, o + y * 13 + 12, none⟩ = some (.slice pa2 ap2.length pc2) ∧ W.cell? ⟨b, o + z * 13, none⟩ = some (.int .i64 t3) ∧ W.cell? ⟨b, o + z * 13 + 1, none⟩ = some (.int .i64 f3) ∧ W.cell? ⟨b, o + z * 13 + 2, none⟩ = some (.int .i64 g3) ∧ W.cell? ⟨b, o + z * 13 + 3, none⟩ = some (.int .i64 oc3) ∧ W.cell? ⟨b, o + z * 13 + 4, none⟩ = some (.int .i64 ok3) ∧ W.cell? ⟨b, o + z * 13 + 5, none⟩ = some (.int .i64 oh3) ∧ W.cell? ⟨b, o + z * 13 + 6, none⟩ = some (.int .i64 ov3) ∧ W.cell? ⟨b, o + z * 13 + 7, none⟩ = some (.int .i64 ae3) ∧ W.cell? ⟨b, o + z * 13 + 8, none⟩ = some (.bool ao3) ∧ W.cell? ⟨b, o + z * 13 + 9, none⟩ = some (.int .i64 ak3) ∧ W.cell? ⟨b, o + z * 13 + 10, none⟩ = some (.int .i64 av3) ∧ W.cell? ⟨b, o + z * 13 + 11, none⟩ = some (.int .i64 an3) ∧ W.cell? ⟨b, o + z * 13 + 12, none⟩ = some (.slice pa3 ap3.length pc3) ∧ Below w4.heap.size w4 W) (by kernel_rfl) (by first | exact ⟨c0, c1, c2, c3, c4, c5, c6, c7, c8, c9, c10, c11, c12, d0, d1, d2, d3, d4, d5, d6, d7, d8, d9, d10, d11, d12, e0, e1, e2, e3, e4, e5, e6, e7, e8, e9, e10, e11, e12, Below.refl _ _⟩ | exact ⟨c0, c1, c2, c3, c4, c5, c6, c7, c8, c9, c10, c11, c12, d0, d1, d2, d3, d4, d5, d6, d7, d8, d9, d10, d11, d12, e0, e1, e2, e3, e4, e5, e6, e7, e8, e9, e10, e11, e12, (Below.refl _ _).drew⟩) (fun hHeld => ?_)
   refine wpAnyH_take (i := 0) (v := ?_) rfl (by kernel_rfl) (by kernel_rfl) (by kernel_rfl) (fun _ _ _ h => h) (Or.inl ⟨by rfl, ?_⟩) hHeld ?_; rotate_left
   ·(intro wS hSw; (try dsimp only at hSw); (try go_split_ands); go_simp; try with_reducible rfl)
   try simp only [ga, gb, gc, Act.put, gs, gd, ge]
   refine wpAnyH_take (i := 1) (v := ?_) rfl (by kernel_rfl) (by kernel_rfl) (by kernel_rfl) (fun _ _ _ h => h) (Or.inl ⟨by rfl, ?_⟩) hHeld ?_; rotate_left
   ·(intro wS hSw; (try dsimp only at hSw); (try go_split_ands); go_simp; try with_reducible rfl)
   try simp only [ga, gb, gc, Act.put, gs, gd, ge]
   refine wpAnyH_take (i := 2) (v := ?_) rfl (by kernel_rfl) (by kernel_rfl) (by kernel_rfl) (fun _ _ _ h => h) (Or.inl ⟨by rfl, ?_⟩) hHeld ?_; rotate_left
   ·(intro wS hSw; (try dsimp only at hSw); (try go_split_ands); go_simp; try with_reducible rfl)
   try simp only [ga, gb, gc, Act.put, gs, gd, ge]
   refine wpAnyH_take (i := 3) (v := ?_) rfl (by kernel_rfl) (by kernel_rfl) (by kernel_rfl) (fun _ _ _ h => h) (Or.inl ⟨by rfl, ?_⟩) hHeld ?_; rotate_left
   ·(intro wS hSw; (try dsimp only at hSw); (try go_split_ands); go_simp; try with_reducible rfl)
   try simp only [ga, gb, gc, Act.put, gs, gd, ge]
   refine wpAnyH_take (i := 4) (v := ?_) rfl (by kernel_rfl) (by kernel_rfl) (by kernel_rfl) (fun _ _ _ h => h) (Or.inl ⟨by rfl, ?_⟩) hHeld ?_; rotate_left
   ·(intro wS hSw; (try dsimp only at hSw); (try go_split_ands); go_simp; try with_reducible rfl)
   try simp only [ga, gb, gc, Act.put, gs, gd, ge]
   refine wpAnyH_take (i := 5) (v := ?_) rfl (by kernel_rfl) (by kernel_rfl) (by kernel_rfl) (fun _ _ _ h => h) (Or.inl ⟨by rfl, ?_⟩) hHeld ?_; rotate_left
   ·(intro wS hSw; (try dsimp only at hSw); (try go_split_ands); go_simp; try with_reducible rfl)
   try simp only [ga, gb, gc, Act.put, gs, gd, ge]
   refine wpAnyH_take (i := 6) (v := ?_) rfl (by kernel_rfl) (by kernel_rfl) (by kernel_rfl) (fun _ _ _ h => h) (Or.inl ⟨by rfl, ?_⟩) hHeld ?_; rotate_left
   ·(intro wS hSw; (try dsimp only at hSw); (try go_split_ands); go_simp; try with_reducible rfl)
   try simp only [ga, gb, gc, Act.put, gs, gd, ge]
   refine wpAnyH_take (i := 7) (v := ?_) rfl (by kernel_rfl) (by kernel_rfl) (by kernel_rfl) (fun _ _ _ h => h) (Or.inl ⟨by rfl, ?_⟩) hHeld ?_; rotate_left
   ·(intro wS hSw; (try dsimp only at hSw); (try go_split_ands); go_simp; try with_reducible rfl)
   try simp only [ga, gb, gc, Act.put, gs, gd, ge]
   refine wpAnyH_take (i := 8) (v := ?_) rfl (by kernel_rfl) (by kernel_rfl) (by kernel_rfl) (fun _ _ _ h => h) (Or.inl ⟨by rfl, ?_⟩) hHeld ?_; rotate_left
   ·(intro wS hSw; (try dsimp only at hSw); (try go_split_ands); go_simp; try with_reducible rfl)
   try simp only [ga, gb, gc, Act.put, gs, gd, ge]
   refine wpAnyH_take (i := 9) (v := ?_) rfl (by kernel_rfl) (by kernel_rfl) (by kernel_rfl) (fun _ _ _ h => h) (Or.inl ⟨by rfl, ?_⟩) hHeld ?_; rotate_left
   ·(intro wS hSw; (try dsimp only at hSw); (try go_split_ands); go_simp; try with_reducible rfl)
   try simp only [ga, gb, gc, Act.put, gs, gd, ge]
   refine wpAnyH_take (i := 10) (v := ?_) rfl (by kernel_rfl) (by kernel_rfl) (by kernel_rfl) (fun _ _ _ h => h) (Or.inl ⟨by rfl, ?_⟩) hHeld ?_; rotate_left
   ·(intro wS hSw; (try dsimp only at hSw); (try go_split_ands); go_simp; try with_reducible rfl)
   try simp only [ga, gb, gc, Act.put, gs, gd, ge]
   refine wpAnyH_take (i := 11) (v := ?_) rfl (by kernel_rfl) (by kernel_rfl) (by kernel_rfl) (fun _ _ _ h => h) (Or.inl ⟨by rfl, ?_⟩) hHeld ?_; rotate_left
   ·(intro wS hSw; (try dsimp only at hSw); (try go_split_ands); go_simp; try with_reducible rfl)
   try simp only [ga, gb, gc, Act.put, gs, gd, ge]
   refine wpAnyH_take (i := 12) (v := ?_) rfl (by kernel_rfl) (by kernel_rfl) (by kernel_rfl) (fun _ _ _ h => h) (Or.inl ⟨by rfl, ?_⟩) hHeld ?_; rotate_left
   ·(intro wS hSw; (try dsimp only at hSw); (try go_split_ands); go_simp; try with_reducible rfl)
   try simp only [ga, gb, gc, Act.put, gs, gd, ge]
   refine wpAnyH_take (i := 13) (v := ?_) rfl (by kernel_rfl) (by kernel_rfl) (by kernel_rfl) (fun _ _ _ h => h) (Or.inl ⟨by rfl, ?_⟩) hHeld ?_; rotate_left
   ·(intro wS hSw; (try dsimp only at hSw); (try go_split_ands); go_simp; try with_reducible rfl)
   try simp only [ga, gb, gc, Act.put, gs, gd, ge]
   refine wpAnyH_take (i := 14) (v := ?_) rfl (by kernel_rfl) (by kernel_rfl) (by kernel_rfl) (fun _ _ _ h => h) (Or.inl ⟨by rfl, ?_⟩) hHeld ?_; rotate_left
   ·(intro wS hSw; (try dsimp only at hSw); (try go_split_ands); go_simp; try with_reducible rfl)
   try simp only [ga, gb, gc, Act.put, gs, gd, ge]
   refine wpAnyH_take (i := 15) (v := ?_) rfl (by kernel_rfl) (by kernel_rfl) (by kernel_rfl) (fun _ _ _ h => h) (Or.inl ⟨by rfl, ?_⟩) hHeld ?_; rotate_left
   ·(intro wS hSw; (try dsimp only at hSw); (try go_split_ands); go_simp; try with_reducible rfl)
   try simp only [ga, gb, gc, Act.put, gs, gd, ge]
   refine wpAnyH_take (i := 16) (v := ?_) rfl (by kernel_rfl) (by kernel_rfl) (by kernel_rfl) (fun _ _ _ h => h) (Or.inl ⟨by rfl, ?_⟩) hHeld ?_; rotate_left
   ·(intro wS hSw; (try dsimp only at hSw); (try go_split_ands); go_simp; try with_reducible rfl)
   try simp only [ga, gb, gc, Act.put, gs, gd, ge]
   refine wpAnyH_take (i := 17) (v := ?_) rfl (by kernel_rfl) (by kernel_rfl) (by kernel_rfl) (fun _ _ _ h => h) (Or.inl ⟨by rfl, ?_⟩) hHeld ?_; rotate_left
   ·(intro wS hSw; (try dsimp only at hSw); (try go_split_ands); go_simp; try with_reducible rfl)
   try simp only [ga, gb, gc, Act.put, gs, gd, ge]
   refine wpAnyH_take (i := 18) (v := ?_) rfl (by kernel_rfl) (by kernel_rfl) (by kernel_rfl) (fun _ _ _ h => h) (Or.inl ⟨by rfl, ?_⟩) hHeld ?_; rotate_left
   ·(intro wS hSw; (try dsimp only at hSw); (try go_split_ands); go_simp; try with_reducible rfl)
   try simp only [ga, gb, gc, Act.put, gs, gd, ge]
   refine wpAnyH_take (i := 19) (v := ?_) rfl (by kernel_rfl) (by kernel_rfl) (by kernel_rfl) (fun _ _ _ h => h) (Or.inl ⟨by rfl, ?_⟩) hHeld ?_; rotate_left
   ·(intro wS hSw; (try dsimp only at hSw); (try go_split_ands); go_simp; try with_reducible rfl)
   try simp only [ga, gb, gc, Act.put, gs, gd, ge]
   refine wpAnyH_take (i := 20) (v := ?_) rfl (by kernel_rfl) (by kernel_rfl) (by kernel_rfl) (fun _ _ _ h => h) (Or.inl ⟨by rfl, ?_⟩) hHeld ?_; rotate_left
   ·(intro wS hSw; (try dsimp only at hSw); (try go_split_ands); go_simp; try with_reducible rfl)
   try simp only [ga, gb, gc, Act.put, gs, gd, ge]
   refine wpAnyH_take (i := 21) (v := ?_) rfl (by kernel_rfl) (by kernel_rfl) (by kernel_rfl) (fun _ _ _ h => h) (Or.inl ⟨by rfl, ?_⟩) hHeld ?_; rotate_left
   ·(intro wS hSw; (try dsimp only at hSw); (try go_split_ands); go_simp; try with_reducible rfl)
   try simp only [ga, gb, gc, Act.put, gs, gd, ge]
   refine wpAnyH_take (i := 22) (v := ?_) rfl (by kernel_rfl) (by kernel_rfl) (by kernel_rfl) (fun _ _ _ h => h) (Or.inl ⟨by rfl, ?_⟩) hHeld ?_; rotate_left
   ·(intro wS hSw; (try dsimp only at hSw); (try go_split_ands); go_simp; try with_reducible rfl)
   try simp only [ga, gb, gc, Act.put, gs, gd, ge]
   refine wpAnyH_take (i := 23) (v := ?_) rfl (by kernel_rfl) (by kernel_rfl) (by kernel_rfl) (fun _ _ _ h => h) (Or.inl ⟨by rfl, ?_⟩) hHeld ?_; rotate_left
   ·(intro wS hSw; (try dsimp only at hSw); (try go_split_ands); go_simp; try with_reducible rfl)
   try simp only [ga, gb, gc, Act.put, gs, gd, ge]
   have HD0 := Lib.hid hHeld.2.2.2.2.2.2.2.2.2.2.2.2.2.2.2.2.2.2.2.2.2.2.2.2.2.2.2.2.2.2.2.2.2.2.2.2.2.2.2
   clear hux huy huz hux' huy' huz' HUX HWL
   generalize (World.drew w4 : World) = W0 at hHeld HD0 ⊢
   refine wpAnyH_ready (rs := [24, 25, 26]) (by kernel_rfl) (by simp) ?_
   refine AllReadyH.cons rfl (fun K hK => ?_) (AllReadyH.cons rfl (fun K hK => ?_) (AllReadyH.cons rfl (fun K hK => ?_) AllReadyH.nil))
   ·go_simp
    refine hK.out _ _ ?_ (fun hNext => ?_)
    ·exact KP.out _ (pb2 HD0.out (pal _))
    clear hK K hHeld
    have hHeld := hNext
    clear hNext
    try simp only [ga, gb, gc, Act.put, gs, gd, ge]
    have Q1 := Lib.hid (Bq.new W0 #[.int .i64 0, .int .i64 0, .int .i64 0, .int .i64 0, .int .i64 0, .int .i64 0, .int .i64 0, .int .i64 0, .bool false, .int .i64 0, .int .i64 0, .int .i64 0, .slice none 0 0] 59)
    have HD1 := Lib.hid (pb2 HD0.out (pal (.cells #[.int .i64 0, .int .i64 0, .int .i64 0, .int .i64 0, .int .i64 0, .int .i64 0, .int .i64 0, .int .i64 0, .bool false, .int .i64 0, .int .i64 0, .int .i64 0, .slice none 0 0] 59)))
    have hG1 := HD0.out.size
    have hS1 : W0.heap.size < (W0.alloc (.cells #[.int .i64 0, .int .i64 0, .int .i64 0, .int .i64 0, .int .i64 0, .int .i64 0, .int .i64 0, .int .i64 0, .bool false, .int .i64 0, .int .i64 0, .int .i64 0, .slice none 0 0] 59)).heap.size := by simp
    generalize W0.alloc (.cells #[.int .i64 0, .int .i64 0, .int .i64 0, .int .i64 0, .int .i64 0, .int .i64 0, .int .i64 0, .int .i64 0, .bool false, .int .i64 0, .int .i64 0, .int .i64 0, .slice none 0 0] 59) = W1 at *
    generalize W0.heap.size = q1 at *
    refine wpAnyH_ready (rs := [25, 26]) (by kernel_rfl) (by simp) ?_
    refine AllReadyH.cons rfl (fun K hK => ?_) (AllReadyH.cons rfl (fun K hK => ?_) AllReadyH.nil)
    ·go_simp
     refine hK.out _ _ ?_ (fun hNext => ?_)
     ·exact KP.out _ (pb2 HD1.out (pal _))
     clear hK K hHeld
     have hHeld := hNext
     clear hNext
     try simp only [ga, gb, gc, Act.put, gs, gd, ge]
     have Q2 := Lib.hid (Bq.new W1 #[.int .i64 0, .int .i64 0, .int .i64 0, .int .i64 0, .int .i64 0, .int .i64 0, .int .i64 0, .int .i64 0, .bool false, .int .i64 0, .int .i64 0, .int .i64 0, .slice none 0 0] 59)
     replace Q1 := Lib.hid (Q1.out.keep (pal (.cells #[.int .i64 0, .int .i64 0, .int .i64 0, .int .i64 0, .int .i64 0, .int .i64 0, .int .i64 0, .int .i64 0, .bool false, .int .i64 0, .int .i64 0, .int .i64 0, .slice none 0 0] 59)))
     have HD2 := Lib.hid (pb2 HD1.out (pal (.cells #[.int .i64 0, .int .i64 0, .int .i64 0, .int .i64 0, .int .i64 0, .int .i64 0, .int .i64 0, .int .i64 0, .bool false, .int .i64 0, .int .i64 0, .int .i64 0, .slice none 0 0] 59)))
     have hG2 := HD1.out.size
     have hN12 : ¬ q1 = W1.heap.size := by omega
     have hS2 : W1.heap.size < (W1.alloc (.cells #[.int .i64 0, .int .i64 0, .int .i64 0, .int .i64 0, .int .i64 0, .int .i64 0, .int .i64 0, .int .i64 0, .bool false, .int .i64 0, .int .i64 0, .int .i64 0, .slice none 0 0] 59)).heap.size := by simp
     have hT12 : q1 < (W1.alloc (.cells #[.int .i64 0, .int .i64 0, .int .i64 0, .int .i64 0, .int .i64 0, .int .i64 0, .int .i64 0, .int .i64 0, .bool false, .int .i64 0, .int .i64 0, .int .i64 0, .slice none 0 0] 59)).heap.size := by omega
     generalize W1.alloc (.cells #[.int .i64 0, .int .i64 0, .int .i64 0, .int .i64 0, .int .i64 0, .int .i64 0, .int .i64 0, .int .i64 0, .bool false, .int .i64 0, .int .i64 0, .int .i64 0, .slice none 0 0] 59) = W2 at *
     generalize W1.heap.size = q2 at *
     refine wpAnyH_ready (rs := [26]) (by kernel_rfl) (by simp) ?_
     refine AllReadyH.cons rfl (fun K hK => ?_) AllReadyH.nil
     go_simp
     refine hK.out _ _ ?_ (fun hNext => ?_)
     ·exact KP.out _ (pb2 HD2.out (pal _))
     clear hK K hHeld
     have hHeld := hNext
     clear hNext
     try simp only [ga, gb, gc, Act.put, gs, gd, ge]
     have Q3 := Lib.hid (Bq.new W2 #[.int .i64 0, .int .i64 0, .int .i64 0, .int .i64 0, .int .i64 0, .int .i64 0, .int .i64 0, .int .i64 0, .bool false, .int .i64 0, .int .i64 0, .int .i64 0, .slice none 0 0] 59)
     replace Q1 := Lib.hid (Q1.out.keep (pal (.cells #[.int .i64 0, .int .i64 0, .int .i64 0, .int .i64 0, .int .i64 0, .int .i64 0, .int .i64 0, .int .i64 0, .bool false, .int .i64 0, .int .i64 0, .int .i64 0, .slice none 0 0] 59)))
     replace Q2 := Lib.hid (Q2.out.keep (pal (.cells #[.int .i64 0, .int .i64 0, .int .i64 0, .int .i64 0, .int .i64 0, .int .i64 0, .int .i64 0, .int .i64 0, .bool false, .int .i64 0, .int .i64 0, .int .i64 0, .slice none 0 0] 59)))
     have HD3 := Lib.hid (pb2 HD2.out (pal (.cells #[.int .i64 0, .int .i64 0, .int .i64 0, .int .i64 0, .int .i64 0, .int .i64 0, .int .i64 0, .int .i64 0, .bool false, .int .i64 0, .int .i64 0, .int .i64 0, .slice none 0 0] 59)))
     have hG3 := HD2.out.size
     have hN13 : ¬ q1 = W2.heap.size := by omega
     have hN23 : ¬ q2 = W2.heap.size := by omega
     have hS3 : W2.heap.size < (W2.alloc (.cells #[.int .i64 0, .int .i64 0, .int .i64 0, .int .i64 0, .int .i64 0, .int .i64 0, .int .i64 0, .int .i64 0, .bool false, .int .i64 0, .int .i64 0, .int .i64 0, .slice none 0 0] 59)).heap.size := by simp
     have hT13 : q1 < (W2.alloc (.cells #[.int .i64 0, .int .i64 0, .int .i64 0, .int .i64 0, .int .i64 0, .int .i64 0, .int .i64 0, .int .i64 0, .bool false, .int .i64 0, .int .i64 0, .int .i64 0, .slice none 0 0] 59)).heap.size := by omega
     have hT23 : q2 < (W2.alloc (.cells #[.int .i64 0, .int .i64 0, .int .i64 0, .int .i64 0, .int .i64 0, .int .i64 0, .int .i64 0, .int .i64 0, .bool false, .int .i64 0, .int .i64 0, .int .i64 0, .slice none 0 0] 59)).heap.size := by omega
     generalize W2.alloc (.cells #[.int .i64 0, .int .i64 0, .int .i64 0, .int .i64 0, .int .i64 0, .int .i64 0, .int .i64 0, .int .i64 0, .bool false, .int .i64 0, .int .i64 0, .int .i64 0, .slice none 0 0] 59) = W3 at *
     generalize W2.heap.size = q3 at *
     refine wpAnyH_ready (rs := [27]) (by kernel_rfl) (by simp) ?_
     refine AllReadyH.cons rfl (fun K hK => ?_) AllReadyH.nil
     have y0 := Q1.out.at_ 0 _ rfl
     have y1 := Q1.out.at_ 1 _ rfl
     have y2 := Q1.out.at_ 2 _ rfl
     have y3 := Q1.out.at_ 3 _ rfl
     have y4 := Q1.out.at_ 4 _ rfl
     have y5 := Q1.out.at_ 5 _ rfl
     have y6 := Q1.out.at_ 6 _ rfl
     have y7 := Q1.out.at_ 7 _ rfl
     have y8 := Q1.out.at_ 8 _ rfl
     have y9 := Q1.out.at_ 9 _ rfl
     have y10 := Q1.out.at_ 10 _ rfl
     have y11 := Q1.out.at_ 11 _ rfl
     have y12 := Q1.out.at_ 12 _ rfl
     have z0 := Q1.out.fr 0
     have z1 := Q1.out.fr 1
     have z2 := Q1.out.fr 2
     have z3 := Q1.out.fr 3
     have z4 := Q1.out.fr 4
     have z5 := Q1.out.fr 5
     have z6 := Q1.out.fr 6
     have z7 := Q1.out.fr 7
     have z8 := Q1.out.fr 8
     have z9 := Q1.out.fr 9
     have z10 := Q1.out.fr 10
     have z11 := Q1.out.fr 11
     have z12 := Q1.out.fr 12
     go_simp
     have HX := stC_below (w0 := w4) (g := q1) hG1 [.int .i64 t1, .int .i64 f1, .int .i64 g1, .int .i64 oc1, .int .i64 ok1, .int .i64 oh1, .int .i64 ov1, .int .i64 ae1, .bool ao1, .int .i64 ak1, .int .i64 av1, .int .i64 an1, .slice pa1 ap1.length pc1] 0 W3 HD3.out
     have YX := stC_same [.int .i64 t1, .int .i64 f1, .int .i64 g1, .int .i64 oc1, .int .i64 ok1, .int .i64 oh1, .int .i64 ov1, .int .i64 ae1, .bool ao1, .int .i64 ak1, .int .i64 av1, .int .i64 an1, .slice pa1 ap1.length pc1] 0 W3 _ Q1.out rfl
     have YX2 := stC_other (b := q2) (g := q1) (by omega) [.int .i64 t1, .int .i64 f1, .int .i64 g1, .int .i64 oc1, .int .i64 ok1, .int .i64 oh1, .int .i64 ov1, .int .i64 ae1, .bool ao1, .int .i64 ak1, .int .i64 av1, .int .i64 an1, .slice pa1 ap1.length pc1] 0 W3 Q2.out
     have YX3 := stC_other (b := q3) (g := q1) (by omega) [.int .i64 t1, .int .i64 f1, .int .i64 g1, .int .i64 oc1, .int .i64 ok1, .int .i64 oh1, .int .i64 ov1, .int .i64 ae1, .bool ao1, .int .i64 ak1, .int .i64 av1, .int .i64 an1, .slice pa1 ap1.length pc1] 0 W3 Q3.out
     simp only [stC, Nat.zero_add, Nat.reduceAdd, List.take_zero, List.nil_append] at HX YX YX2 YX3
     refine hK.out _ _ ?_ (fun hNext => ?_)
     ·exact KP.out _ HX
     clear hK K hHeld
     have hHeld := hNext
     clear hNext
     try simp only [ga, gb, gc, Act.put, gs, gd, ge]
     clear y0 z0 y1 z1 y2 z2 y3 z3 y4 z4 y5 z5 y6 z6 y7 z7 y8 z8 y9 z9 y10 z10 y11 z11 y12 z12
     have HD4 := Lib.hid HX
     clear Q1 Q2 Q3
     have Q1 := Lib.hid YX
     have Q2 := Lib.hid YX2
     have Q3 := Lib.hid YX3
     clear HX YX YX2 YX3
     generalize (((((((((((((W3.setCell ⟨q1, 0, none⟩ (.int .i64 t1)).setCell ⟨q1, 1, none⟩ (.int .i64 f1)).setCell ⟨q1, 2, none⟩ (.int .i64 g1)).setCell ⟨q1, 3, none⟩ (.int .i64 oc1)).setCell ⟨q1, 4, none⟩ (.int .i64 ok1)).setCell ⟨q1, 5, none⟩ (.int .i64 oh1)).setCell ⟨q1, 6, none⟩ (.int .i64 ov1)).setCell ⟨q1, 7, none⟩ (.int .i64 ae1)).setCell ⟨q1, 8, none⟩ (.bool ao1)).setCell ⟨q1, 9, none⟩ (.int .i64 ak1)).setCell ⟨q1, 10, none⟩ (.int .i64 av1)).setCell ⟨q1, 11, none⟩ (.int .i64 an1)).setCell ⟨q1, 12, none⟩ (.slice pa1 ap1.length pc1)) = W4 at *
     refine wpAnyH_ready (rs := [28]) (by kernel_rfl) (by simp) ?_
     refine AllReadyH.cons rfl (fun K hK => ?_) AllReadyH.nil
     have y0 := Q2.out.at_ 0 _ rfl
     have y1 := Q2.out.at_ 1 _ rfl
     have y2 := Q2.out.at_ 2 _ rfl
     have y3 := Q2.out.at_ 3 _ rfl
     have y4 := Q2.out.at_ 4 _ rfl
     have y5 := Q2.out.at_ 5 _ rfl
     have y6 := Q2.out.at_ 6 _ rfl
     have y7 := Q2.out.at_ 7 _ rfl
     have y8 := Q2.out.at_ 8 _ rfl
     have y9 := Q2.out.at_ 9 _ rfl
     have y10 := Q2.out.at_ 10 _ rfl
     have y11 := Q2.out.at_ 11 _ rfl
     have y12 := Q2.out.at_ 12 _ rfl
     have z0 := Q2.out.fr 0
     have z1 := Q2.out.fr 1
     have z2 := Q2.out.fr 2
     have z3 := Q2.out.fr 3
     have z4 := Q2.out.fr 4
     have z5 := Q2.out.fr 5
     have z6 := Q2.out.fr 6
     have z7 := Q2.out.fr 7
     have z8 := Q2.out.fr 8
     have z9 := Q2.out.fr 9
     have z10 := Q2.out.fr 10
     have z11 := Q2.out.fr 11
     have z12 := Q2.out.fr 12
     go_simp
     have HX := stC_below (w0 := w4) (g := q2) hG2 [.int .i64 t2, .int .i64 f2, .int .i64 g2, .int .i64 oc2, .int .i64 ok2, .int .i64 oh2, .int .i64 ov2, .int .i64 ae2, .bool ao2, .int .i64 ak2, .int .i64 av2, .int .i64 an2, .slice pa2 ap2.length pc2] 0 W4 HD4.out
     have YX := stC_same [.int .i64 t2, .int .i64 f2, .int .i64 g2, .int .i64 oc2, .int .i64 ok2, .int .i64 oh2, .int .i64 ov2, .int .i64 ae2, .bool ao2, .int .i64 ak2, .int .i64 av2, .int .i64 an2, .slice pa2 ap2.length pc2] 0 W4 _ Q2.out rfl
     have YX1 := stC_other (b := q1) (g := q2) (by omega) [.int .i64 t2, .int .i64 f2, .int .i64 g2, .int .i64 oc2, .int .i64 ok2, .int .i64 oh2, .int .i64 ov2, .int .i64 ae2, .bool ao2, .int .i64 ak2, .int .i64 av2, .int .i64 an2, .slice pa2 ap2.length pc2] 0 W4 Q1.out
     have YX3 := stC_other (b := q3) (g := q2) (by omega) [.int .i64 t2, .int .i64 f2, .int .i64 g2, .int .i64 oc2, .int .i64 ok2, .int .i64 oh2, .int .i64 ov2, .int .i64 ae2, .bool ao2, .int .i64 ak2, .int .i64 av2, .int .i64 an2, .slice pa2 ap2.length pc2] 0 W4 Q3.out
     simp only [stC, Nat.zero_add, Nat.reduceAdd, List.take_zero, List.nil_append] at HX YX YX1 YX3
     refine hK.out _ _ ?_ (fun hNext => ?_)
     ·exact KP.out _ HX
     clear hK K hHeld
     have hHeld := hNext
     clear hNext
     try simp only [ga, gb, gc, Act.put, gs, gd, ge]
     clear y0 z0 y1 z1 y2 z2 y3 z3 y4 z4 y5 z5 y6 z6 y7 z7 y8 z8 y9 z9 y10 z10 y11 z11 y12 z12
     have HD5 := Lib.hid HX
     clear Q2 Q1 Q3
     have Q2 := Lib.hid YX
     have Q1 := Lib.hid YX1
     have Q3 := Lib.hid YX3
     clear HX YX YX1 YX3
     generalize (((((((((((((W4.setCell ⟨q2, 0, none⟩ (.int .i64 t2)).setCell ⟨q2, 1, none⟩ (.int .i64 f2)).setCell ⟨q2, 2, none⟩ (.int .i64 g2)).setCell ⟨q2, 3, none⟩ (.int .i64 oc2)).setCell ⟨q2, 4, none⟩ (.int .i64 ok2)).setCell ⟨q2, 5, none⟩ (.int .i64 oh2)).setCell ⟨q2, 6, none⟩ (.int .i64 ov2)).setCell ⟨q2, 7, none⟩ (.int .i64 ae2)).setCell ⟨q2, 8, none⟩ (.bool ao2)).setCell ⟨q2, 9, none⟩ (.int .i64 ak2)).setCell ⟨q2, 10, none⟩ (.int .i64 av2)).setCell ⟨q2, 11, none⟩ (.int .i64 an2)).setCell ⟨q2, 12, none⟩ (.slice pa2 ap2.length pc2)) = W5 at *
     refine wpAnyH_ready (rs := [29]) (by kernel_rfl) (by simp) ?_
     refine AllReadyH.cons rfl (fun K hK => ?_) AllReadyH.nil
     have y0 := Q3.out.at_ 0 _ rfl
     have y1 := Q3.out.at_ 1 _ rfl
     have y2 := Q3.out.at_ 2 _ rfl
     have y3 := Q3.out.at_ 3 _ rfl
     have y4 := Q3.out.at_ 4 _ rfl
     have y5 := Q3.out.at_ 5 _ rfl
     have y6 := Q3.out.at_ 6 _ rfl
     have y7 := Q3.out.at_ 7 _ rfl
     have y8 := Q3.out.at_ 8 _ rfl
     have y9 := Q3.out.at_ 9 _ rfl
     have y10 := Q3.out.at_ 10 _ rfl
     have y11 := Q3.out.at_ 11 _ rfl
     have y12 := Q3.out.at_ 12 _ rfl
     have z0 := Q3.out.fr 0
     have z1 := Q3.out.fr 1
     have z2 := Q3.out.fr 2
     have z3 := Q3.out.fr 3
     have z4 := Q3.out.fr 4
     have z5 := Q3.out.fr 5
     have z6 := Q3.out.fr 6
     have z7 := Q3.out.fr 7
     have z8 := Q3.out.fr 8
     have z9 := Q3.out.fr 9
     have z10 := Q3.out.fr 10
     have z11 := Q3.out.fr 11
     have z12 := Q3.out.fr 12
     go_simp
     have HX := stC_below (w0 := w4) (g := q3) hG3 [.int .i64 t3, .int .i64 f3, .int .i64 g3, .int .i64 oc3, .int .i64 ok3, .int .i64 oh3, .int .i64 ov3, .int .i64 ae3, .bool ao3, .int .i64 ak3, .int .i64 av3, .int .i64 an3, .slice pa3 ap3.length pc3] 0 W5 HD5.out
     have YX := stC_same [.int .i64 t3, .int .i64 f3, .int .i64 g3, .int .i64 oc3, .int .i64 ok3, .int .i64 oh3, .int .i64 ov3, .int .i64 ae3, .bool ao3, .int .i64 ak3, .int .i64 av3, .int .i64 an3, .slice pa3 ap3.length pc3] 0 W5 _ Q3.out rfl
     have YX1 := stC_other (b := q1) (g := q3) (by omega) [.int .i64 t3, .int .i64 f3, .int .i64 g3, .int .i64 oc3, .int .i64 ok3, .int .i64 oh3, .int .i64 ov3, .int .i64 ae3, .bool ao3, .int .i64 ak3, .int .i64 av3, .int .i64 an3, .slice pa3 ap3.length pc3] 0 W5 Q1.out
     have YX2 := stC_other (b := q2) (g := q3) (by omega) [.int .i64 t3, .int .i64 f3, .int .i64 g3, .int .i64 oc3, .int .i64 ok3, .int .i64 oh3, .int .i64 ov3, .int .i64 ae3, .bool ao3, .int .i64 ak3, .int .i64 av3, .int .i64 an3, .slice pa3 ap3.length pc3] 0 W5 Q2.out
     simp only [stC, Nat.zero_add, Nat.reduceAdd, List.take_zero, List.nil_append] at HX YX YX1 YX2
     refine hK.out _ _ ?_ (fun hNext => ?_)
     ·exact KP.out _ HX
     clear hK K hHeld
     have hHeld := hNext
     clear hNext
     try simp only [ga, gb, gc, Act.put, gs, gd, ge]
     clear y0 z0 y1 z1 y2 z2 y3 z3 y4 z4 y5 z5 y6 z6 y7 z7 y8 z8 y9 z9 y10 z10 y11 z11 y12 z12
     have HD6 := Lib.hid HX
     clear Q3 Q1 Q2
     have Q3 := Lib.hid YX
     have Q1 := Lib.hid YX1
     have Q2 := Lib.hid YX2
     clear HX YX YX1 YX2
     generalize (((((((((((((W5.setCell ⟨q3, 0, none⟩ (.int .i64 t3)).setCell ⟨q3, 1, none⟩ (.int .i64 f3)).setCell ⟨q3, 2, none⟩ (.int .i64 g3)).setCell ⟨q3, 3, none⟩ (.int .i64 oc3)).setCell ⟨q3, 4, none⟩ (.int .i64 ok3)).setCell ⟨q3, 5, none⟩ (.int .i64 oh3)).setCell ⟨q3, 6, none⟩ (.int .i64 ov3)).setCell ⟨q3, 7, none⟩ (.int .i64 ae3)).setCell ⟨q3, 8, none⟩ (.bool ao3)).setCell ⟨q3, 9, none⟩ (.int .i64 ak3)).setCell ⟨q3, 10, none⟩ (.int .i64 av3)).setCell ⟨q3, 11, none⟩ (.int .i64 an3)).setCell ⟨q3, 12, none⟩ (.slice pa3 ap3.length pc3)) = W6 at *
     refine wpAnyH_done (by kernel_rfl) ?_ _
     clear hHeld
     go_wp2_with (fail)
     go_meet
     exact ⟨q1, q2, q3, rfl, rfl, rfl, Q1.out, Q2.out, Q3.out, HD6.out⟩
    ·go_simp
     refine hK.out _ _ ?_ (fun hNext => ?_)
     ·exact KP.out _ (pb2 HD1.out (pal _))
     clear hK K hHeld
     have hHeld := hNext
     clear hNext
     try simp only [ga, gb, gc, Act.put, gs, gd, ge]
     have Q3 := Lib.hid (Bq.new W1 #[.int .i64 0, .int .i64 0, .int .i64 0, .int .i64 0, .int .i64 0, .int .i64 0, .int .i64 0, .int .i64 0, .bool false, .int .i64 0, .int .i64 0, .int .i64 0, .slice none 0 0] 59)
     replace Q1 := Lib.hid (Q1.out.keep (pal (.cells #[.int .i64 0, .int .i64 0, .int .i64 0, .int .i64 0, .int .i64 0, .int .i64 0, .int .i64 0, .int .i64 0, .bool false, .int .i64 0, .int .i64 0, .int .i64 0, .slice none 0 0] 59)))
     have HD2 := Lib.hid (pb2 HD1.out (pal (.cells #[.int .i64 0, .int .i64 0, .int .i64 0, .int .i64 0, .int .i64 0, .int .i64 0, .int .i64 0, .int .i64 0, .bool false, .int .i64 0, .int .i64 0, .int .i64 0, .slice none 0 0] 59)))
     have hG3 := HD1.out.size
     have hN13 : ¬ q1 = W1.heap.size := by omega
     have hS3 : W1.heap.size < (W1.alloc (.cells #[.int .i64 0, .int .i64 0, .int .i64 0, .int .i64 0, .int .i64 0, .int .i64 0, .int .i64 0, .int .i64 0, .bool false, .int .i64 0, .int .i64 0, .int .i64 0, .slice none 0 0] 59)).heap.size := by simp
     have hT13 : q1 < (W1.alloc (.cells #[.int .i64 0, .int .i64 0, .int .i64 0, .int .i64 0, .int .i64 0, .int .i64 0, .int .i64 0, .int .i64 0, .bool false, .int .i64 0, .int .i64 0, .int .i64 0, .slice none 0 0] 59)).heap.size := by omega
     generalize W1.alloc (.cells #[.int .i64 0, .int .i64 0, .int .i64 0, .int .i64 0, .int .i64 0, .int .i64 0, .int .i64 0, .int .i64 0, .bool false, .int .i64 0, .int .i64 0, .int .i64 0, .slice none 0 0] 59) = W2 at *
     generalize W1.heap.size = q3 at *
     refine wpAnyH_ready (rs := [25]) (by kernel_rfl) (by simp) ?_
     refine AllReadyH.cons rfl (fun K hK => ?_) AllReadyH.nil
     go_simp
     refine hK.out _ _ ?_ (fun hNext => ?_)
     ·exact KP.out _ (pb2 HD2.out (pal _))
     clear hK K hHeld
     have hHeld := hNext
     clear hNext
     try simp only [ga, gb, gc, Act.put, gs, gd, ge]
     have Q2 := Lib.hid (Bq.new W2 #[.int .i64 0, .int .i64 0, .int .i64 0, .int .i64 0, .int .i64 0, .int .i64 0, .int .i64 0, .int .i64 0, .bool false, .int .i64 0, .int .i64 0, .int .i64 0, .slice none 0 0] 59)
     replace Q1 := Lib.hid (Q1.out.keep (pal (.cells #[.int .i64 0, .int .i64 0, .int .i64 0, .int .i64 0, .int .i64 0, .int .i64 0, .int .i64 0, .int .i64 0, .bool false, .int .i64 0, .int .i64 0, .int .i64 0, .slice none 0 0] 59)))
     replace Q3 := Lib.hid (Q3.out.keep (pal (.cells #[.int .i64 0, .int .i64 0, .int .i64 0, .int .i64 0, .int .i64 0, .int .i64 0, .int .i64 0, .int .i64 0, .bool false, .int .i64 0, .int .i64 0, .int .i64 0, .slice none 0 0] 59)))
     have HD3 := Lib.hid (pb2 HD2.out (pal (.cells #[.int .i64 0, .int .i64 0, .int .i64 0, .int .i64 0, .int .i64 0, .int .i64 0, .int .i64 0, .int .i64 0, .bool false, .int .i64 0, .int .i64 0, .int .i64 0, .slice none 0 0] 59)))
     have hG2 := HD2.out.size
     have hN12 : ¬ q1 = W2.heap.size := by omega
     have hN32 : ¬ q3 = W2.heap.size := by omega
     have hS2 : W2.heap.size < (W2.alloc (.cells #[.int .i64 0, .int .i64 0, .int .i64 0, .int .i64 0, .int .i64 0, .int .i64 0, .int .i64 0, .int .i64 0, .bool false, .int .i64 0, .int .i64 0, .int .i64 0, .slice none 0 0] 59)).heap.size := by simp
     have hT12 : q1 < (W2.alloc (.cells #[.int .i64 0, .int .i64 0, .int .i64 0, .int .i64 0, .int .i64 0, .int .i64 0, .int .i64 0, .int .i64 0, .bool false, .int .i64 0, .int .i64 0, .int .i64 0, .slice none 0 0] 59)).heap.size := by omega
     have hT32 : q3 < (W2.alloc (.cells #[.int .i64 0, .int .i64 0, .int .i64 0, .int .i64 0, .int .i64 0, .int .i64 0, .int .i64 0, .int .i64 0, .bool false, .int .i64 0, .int .i64 0, .int .i64 0, .slice none 0 0] 59)).heap.size := by omega
     generalize W2.alloc (.cells #[.int .i64 0, .int .i64 0, .int .i64 0, .int .i64 0, .int .i64 0, .int .i64 0, .int .i64 0, .int .i64 0, .bool false, .int .i64 0, .int .i64 0, .int .i64 0, .slice none 0 0] 59) = W3 at *
     generalize W2.heap.size = q2 at *
     refine wpAnyH_ready (rs := [27]) (by kernel_rfl) (by simp) ?_
     refine AllReadyH.cons rfl (fun K hK => ?_) AllReadyH.nil
     have y0 := Q1.out.at_ 0 _ rfl
     have y1 := Q1.out.at_ 1 _ rfl
     have y2 := Q1.out.at_ 2 _ rfl
     have y3 := Q1.out.at_ 3 _ rfl
     have y4 := Q1.out.at_ 4 _ rfl
     have y5 := Q1.out.at_ 5 _ rfl
     have y6 := Q1.out.at_ 6 _ rfl
     have y7 := Q1.out.at_ 7 _ rfl
     have y8 := Q1.out.at_ 8 _ rfl
     have y9 := Q1.out.at_ 9 _ rfl
     have y10 := Q1.out.at_ 10 _ rfl
     have y11 := Q1.out.at_ 11 _ rfl
     have y12 := Q1.out.at_ 12 _ rfl
     have z0 := Q1.out.fr 0
     have z1 := Q1.out.fr 1
     have z2 := Q1.out.fr 2
     have z3 := Q1.out.fr 3
     have z4 := Q1.out.fr 4
     have z5 := Q1.out.fr 5
     have z6 := Q1.out.fr 6
     have z7 := Q1.out.fr 7
     have z8 := Q1.out.fr 8
     have z9 := Q1.out.fr 9
     have z10 := Q1.out.fr 10
     have z11 := Q1.out.fr 11
     have z12 := Q1.out.fr 12
     go_simp
     have HX := stC_below (w0 := w4) (g := q1) hG1 [.int .i64 t1, .int .i64 f1, .int .i64 g1, .int .i64 oc1, .int .i64 ok1, .int .i64 oh1, .int .i64 ov1, .int .i64 ae1, .bool ao1, .int .i64 ak1, .int .i64 av1, .int .i64 an1, .slice pa1 ap1.length pc1] 0 W3 HD3.out
     have YX := stC_same [.int .i64 t1, .int .i64 f1, .int .i64 g1, .int .i64 oc1, .int .i64 ok1, .int .i64 oh1, .int .i64 ov1, .int .i64 ae1, .bool ao1, .int .i64 ak1, .int .i64 av1, .int .i64 an1, .slice pa1 ap1.length pc1] 0 W3 _ Q1.out rfl
     have YX2 := stC_other (b := q2) (g := q1) (by omega) [.int .i64 t1, .int .i64 f1, .int .i64 g1, .int .i64 oc1, .int .i64 ok1, .int .i64 oh1, .int .i64 ov1, .int .i64 ae1, .bool ao1, .int .i64 ak1, .int .i64 av1, .int .i64 an1, .slice pa1 ap1.length pc1] 0 W3 Q2.out
     have YX3 := stC_other (b := q3) (g := q1) (by omega) [.int .i64 t1, .int .i64 f1, .int .i64 g1, .int .i64 oc1, .int .i64 ok1, .int .i64 oh1, .int .i64 ov1, .int .i64 ae1, .bool ao1, .int .i64 ak1, .int .i64 av1, .int .i64 an1, .slice pa1 ap1.length pc1] 0 W3 Q3.out
     simp only [stC, Nat.zero_add, Nat.reduceAdd, List.take_zero, List.nil_append] at HX YX YX2 YX3
     refine hK.out _ _ ?_ (fun hNext => ?_)
     ·exact KP.out _ HX
     clear hK K hHeld
     have hHeld := hNext
     clear hNext
     try simp only [ga, gb, gc, Act.put, gs, gd, ge]
     clear y0 z0 y1 z1 y2 z2 y3 z3 y4 z4 y5 z5 y6 z6 y7 z7 y8 z8 y9 z9 y10 z10 y11 z11 y12 z12
     have HD4 := Lib.hid HX
     clear Q1 Q2 Q3
     have Q1 := Lib.hid YX
     have Q2 := Lib.hid YX2
     have Q3 := Lib.hid YX3
     clear HX YX YX2 YX3
     generalize (((((((((((((W3.setCell ⟨q1, 0, none⟩ (.int .i64 t1)).setCell ⟨q1, 1, none⟩ (.int .i64 f1)).setCell ⟨q1, 2, none⟩ (.int .i64 g1)).setCell ⟨q1, 3, none⟩ (.int .i64 oc1)).setCell ⟨q1, 4, none⟩ (.int .i64 ok1)).setCell ⟨q1, 5, none⟩ (.int .i64 oh1)).setCell ⟨q1, 6, none⟩ (.int .i64 ov1)).setCell ⟨q1, 7, none⟩ (.int .i64 ae1)).setCell ⟨q1, 8, none⟩ (.bool ao1)).setCell ⟨q1, 9, none⟩ (.int .i64 ak1)).setCell ⟨q1, 10, none⟩ (.int .i64 av1)).setCell ⟨q1, 11, none⟩ (.int .i64 an1)).setCell ⟨q1, 12, none⟩ (.slice pa1 ap1.length pc1)) = W4 at *
     refine wpAnyH_ready (rs := [28]) (by kernel_rfl) (by simp) ?_
     refine AllReadyH.cons rfl (fun K hK => ?_) AllReadyH.nil
     have y0 := Q2.out.at_ 0 _ rfl
     have y1 := Q2.out.at_ 1 _ rfl
     have y2 := Q2.out.at_ 2 _ rfl
     have y3 := Q2.out.at_ 3 _ rfl
     have y4 := Q2.out.at_ 4 _ rfl
     have y5 := Q2.out.at_ 5 _ rfl
     have y6 := Q2.out.at_ 6 _ rfl
     have y7 := Q2.out.at_ 7 _ rfl
     have y8 := Q2.out.at_ 8 _ rfl
     have y9 := Q2.out.at_ 9 _ rfl
     have y10 := Q2.out.at_ 10 _ rfl
     have y11 := Q2.out.at_ 11 _ rfl
     have y12 := Q2.out.at_ 12 _ rfl
     have z0 := Q2.out.fr 0
     have z1 := Q2.out.fr 1
     have z2 := Q2.out.fr 2
     have z3 := Q2.out.fr 3
     have z4 := Q2.out.fr 4
     have z5 := Q2.out.fr 5
     have z6 := Q2.out.fr 6
     have z7 := Q2.out.fr 7
     have z8 := Q2.out.fr 8
     have z9 := Q2.out.fr 9
     have z10 := Q2.out.fr 10
     have z11 := Q2.out.fr 11
     have z12 := Q2.out.fr 12
     go_simp
     have HX := stC_below (w0 := w4) (g := q2) hG2 [.int .i64 t2, .int .i64 f2, .int .i64 g2, .int .i64 oc2, .int .i64 ok2, .int .i64 oh2, .int .i64 ov2, .int .i64 ae2, .bool ao2, .int .i64 ak2, .int .i64 av2, .int .i64 an2, .slice pa2 ap2.length pc2] 0 W4 HD4.out
     have YX := stC_same [.int .i64 t2, .int .i64 f2, .int .i64 g2, .int .i64 oc2, .int .i64 ok2, .int .i64 oh2, .int .i64 ov2, .int .i64 ae2, .bool ao2, .int .i64 ak2, .int .i64 av2, .int .i64 an2, .slice pa2 ap2.length pc2] 0 W4 _ Q2.out rfl
     have YX1 := stC_other (b := q1) (g := q2) (by omega) [.int .i64 t2, .int .i64 f2, .int .i64 g2, .int .i64 oc2, .int .i64 ok2, .int .i64 oh2, .int .i64 ov2, .int .i64 ae2, .bool ao2, .int .i64 ak2, .int .i64 av2, .int .i64 an2, .slice pa2 ap2.length pc2] 0 W4 Q1.out
     have YX3 := stC_other (b := q3) (g := q2) (by omega) [.int .i64 t2, .int .i64 f2, .int .i64 g2, .int .i64 oc2, .int .i64 ok2, .int .i64 oh2, .int .i64 ov2, .int .i64 ae2, .bool ao2, .int .i64 ak2, .int .i64 av2, .int .i64 an2, .slice pa2 ap2.length pc2] 0 W4 Q3.out
     simp only [stC, Nat.zero_add, Nat.reduceAdd, List.take_zero, List.nil_append] at HX YX YX1 YX3
     refine hK.out _ _ ?_ (fun hNext => ?_)
     ·exact KP.out _ HX
     clear hK K hHeld
     have hHeld := hNext
     clear hNext
     try simp only [ga, gb, gc, Act.put, gs, gd, ge]
     clear y0 z0 y1 z1 y2 z2 y3 z3 y4 z4 y5 z5 y6 z6 y7 z7 y8 z8 y9 z9 y10 z10 y11 z11 y12 z12
     have HD5 := Lib.hid HX
     clear Q2 Q1 Q3
     have Q2 := Lib.hid YX
     have Q1 := Lib.hid YX1
     have Q3 := Lib.hid YX3
     clear HX YX YX1 YX3
     generalize (((((((((((((W4.setCell ⟨q2, 0, none⟩ (.int .i64 t2)).setCell ⟨q2, 1, none⟩ (.int .i64 f2)).setCell ⟨q2, 2, none⟩ (.int .i64 g2)).setCell ⟨q2, 3, none⟩ (.int .i64 oc2)).setCell ⟨q2, 4, none⟩ (.int .i64 ok2)).setCell ⟨q2, 5, none⟩ (.int .i64 oh2)).setCell ⟨q2, 6, none⟩ (.int .i64 ov2)).setCell ⟨q2, 7, none⟩ (.int .i64 ae2)).setCell ⟨q2, 8, none⟩ (.bool ao2)).setCell ⟨q2, 9, none⟩ (.int .i64 ak2)).setCell ⟨q2, 10, none⟩ (.int .i64 av2)).setCell ⟨q2, 11, none⟩ (.int .i64 an2)).setCell ⟨q2, 12, none⟩ (.slice pa2 ap2.length pc2)) = W5 at *
     refine wpAnyH_ready (rs := [29]) (by kernel_rfl) (by simp) ?_
     refine AllReadyH.cons rfl (fun K hK => ?_) AllReadyH.nil
     have y0 := Q3.out.at_ 0 _ rfl
     have y1 := Q3.out.at_ 1 _ rfl
     have y2 := Q3.out.at_ 2 _ rfl
     have y3 := Q3.out.at_ 3 _ rfl
     have y4 := Q3.out.at_ 4 _ rfl
     have y5 := Q3.out.at_ 5 _ rfl
     have y6 := Q3.out.at_ 6 _ rfl
     have y7 := Q3.out.at_ 7 _ rfl
     have y8 := Q3.out.at_ 8 _ rfl
     have y9 := Q3.out.at_ 9 _ rfl
     have y10 := Q3.out.at_ 10 _ rfl
     have y11 := Q3.out.at_ 11 _ rfl
     have y12 := Q3.out.at_ 12 _ rfl
     have z0 := Q3.out.fr 0
     have z1 := Q3.out.fr 1
     have z2 := Q3.out.fr 2
     have z3 := Q3.out.fr 3
     have z4 := Q3.out.fr 4
     have z5 := Q3.out.fr 5
     have z6 := Q3.out.fr 6
     have z7 := Q3.out.fr 7
     have z8 := Q3.out.fr 8
     have z9 := Q3.out.fr 9
     have z10 := Q3.out.fr 10
     have z11 := Q3.out.fr 11
     have z12 := Q3.out.fr 12
     go_simp
     have HX := stC_below (w0 := w4) (g := q3) hG3 [.int .i64 t3, .int .i64 f3, .int .i64 g3, .int .i64 oc3, .int .i64 ok3, .int .i64 oh3, .int .i64 ov3, .int .i64 ae3, .bool ao3, .int .i64 ak3, .int .i64 av3, .int .i64 an3, .slice pa3 ap3.length pc3] 0 W5 HD5.out
     have YX := stC_same [.int .i64 t3, .int .i64 f3, .int .i64 g3, .int .i64 oc3, .int .i64 ok3, .int .i64 oh3, .int .i64 ov3, .int .i64 ae3, .bool ao3, .int .i64 ak3, .int .i64 av3, .int .i64 an3, .slice pa3 ap3.length pc3] 0 W5 _ Q3.out rfl
     have YX1 := stC_other (b := q1) (g := q3) (by omega) [.int .i64 t3, .int .i64 f3, .int .i64 g3, .int .i64 oc3, .int .i64 ok3, .int .i64 oh3, .int .i64 ov3, .int .i64 ae3, .bool ao3, .int .i64 ak3, .int .i64 av3, .int .i64 an3, .slice pa3 ap3.length pc3] 0 W5 Q1.out
     have YX2 := stC_other (b := q2) (g := q3) (by omega) [.int .i64 t3, .int .i64 f3, .int .i64 g3, .int .i64 oc3, .int .i64 ok3, .int .i64 oh3, .int .i64 ov3, .int .i64 ae3, .bool ao3, .int .i64 ak3, .int .i64 av3, .int .i64 an3, .slice pa3 ap3.length pc3] 0 W5 Q2.out
     simp only [stC, Nat.zero_add, Nat.reduceAdd, List.take_zero, List.nil_append] at HX YX YX1 YX2
     refine hK.out _ _ ?_ (fun hNext => ?_)
     ·exact KP.out _ HX
     clear hK K hHeld
     have hHeld := hNext
     clear hNext
     try simp only [ga, gb, gc, Act.put, gs, gd, ge]
     clear y0 z0 y1 z1 y2 z2 y3 z3 y4 z4 y5 z5 y6 z6 y7 z7 y8 z8 y9 z9 y10 z10 y11 z11 y12 z12
     have HD6 := Lib.hid HX
     clear Q3 Q1 Q2
     have Q3 := Lib.hid YX
     have Q1 := Lib.hid YX1
     have Q2 := Lib.hid YX2
     clear HX YX YX1 YX2
     generalize (((((((((((((W5.setCell ⟨q3, 0, none⟩ (.int .i64 t3)).setCell ⟨q3, 1, none⟩ (.int .i64 f3)).setCell ⟨q3, 2, none⟩ (.int .i64 g3)).setCell ⟨q3, 3, none⟩ (.int .i64 oc3)).setCell ⟨q3, 4, none⟩ (.int .i64 ok3)).setCell ⟨q3, 5, none⟩ (.int .i64 oh3)).setCell ⟨q3, 6, none⟩ (.int .i64 ov3)).setCell ⟨q3, 7, none⟩ (.int .i64 ae3)).setCell ⟨q3, 8, none⟩ (.bool ao3)).setCell ⟨q3, 9, none⟩ (.int .i64 ak3)).setCell ⟨q3, 10, none⟩ (.int .i64 av3)).setCell ⟨q3, 11, none⟩ (.int .i64 an3)).setCell ⟨q3, 12, none⟩ (.slice pa3 ap3.length pc3)) = W6 at *
     refine wpAnyH_done (by kernel_rfl) ?_ _
     clear hHeld
     go_wp2_with (fail)
     go_meet
     exact ⟨q1, q2, q3, rfl, rfl, rfl, Q1.out, Q2.out, Q3.out, HD6.out⟩
   ·go_simp
    refine hK.out _ _ ?_ (fun hNext => ?_)
    ·exact KP.out _ (pb2 HD0.out (pal _))
    clear hK K hHeld
    have hHeld := hNext
    clear hNext
    try simp only [ga, gb, gc, Act.put, gs, gd, ge]
    have Q2 := Lib.hid (Bq.new W0 #[.int .i64 0, .int .i64 0, .int .i64 0, .int .i64 0, .int .i64 0, .int .i64 0, .int .i64 0, .int .i64 0, .bool false, .int .i64 0, .int .i64 0, .int .i64 0, .slice none 0 0] 59)
    have HD1 := Lib.hid (pb2 HD0.out (pal (.cells #[.int .i64 0, .int .i64 0, .int .i64 0, .int .i64 0, .int .i64 0, .int .i64 0, .int .i64 0, .int .i64 0, .bool false, .int .i64 0, .int .i64 0, .int .i64 0, .slice none 0 0] 59)))
    have hG2 := HD0.out.size
    have hS2 : W0.heap.size < (W0.alloc (.cells #[.int .i64 0, .int .i64 0, .int .i64 0, .int .i64 0, .int .i64 0, .int .i64 0, .int .i64 0, .int .i64 0, .bool false, .int .i64 0, .int .i64 0, .int .i64 0, .slice none 0 0] 59)).heap.size := by simp
    generalize W0.alloc (.cells #[.int .i64 0, .int .i64 0, .int .i64 0, .int .i64 0, .int .i64 0, .int .i64 0, .int .i64 0, .int .i64 0, .bool false, .int .i64 0, .int .i64 0, .int .i64 0, .slice none 0 0] 59) = W1 at *
    generalize W0.heap.size = q2 at *
    refine wpAnyH_ready (rs := [24, 26]) (by kernel_rfl) (by simp) ?_
    refine AllReadyH.cons rfl (fun K hK => ?_) (AllReadyH.cons rfl (fun K hK => ?_) AllReadyH.nil)
    ·go_simp
     refine hK.out _ _ ?_ (fun hNext => ?_)
     ·exact KP.out _ (pb2 HD1.out (pal _))
     clear hK K hHeld
     have hHeld := hNext
     clear hNext
     try simp only [ga, gb, gc, Act.put, gs, gd, ge]
     have Q1 := Lib.hid (Bq.new W1 #[.int .i64 0, .int .i64 0, .int .i64 0, .int .i64 0, .int .i64 0, .int .i64 0, .int .i64 0, .int .i64 0, .bool false, .int .i64 0, .int .i64 0, .int .i64 0, .slice none 0 0] 59)
     replace Q2 := Lib.hid (Q2.out.keep (pal (.cells #[.int .i64 0, .int .i64 0, .int .i64 0, .int .i64 0, .int .i64 0, .int .i64 0, .int .i64 0, .int .i64 0, .bool false, .int .i64 0, .int .i64 0, .int .i64 0, .slice none 0 0] 59)))
     have HD2 := Lib.hid (pb2 HD1.out (pal (.cells #[.int .i64 0, .int .i64 0, .int .i64 0, .int .i64 0, .int .i64 0, .int .i64 0, .int .i64 0, .int .i64 0, .bool false, .int .i64 0, .int .i64 0, .int .i64 0, .slice none 0 0] 59)))
     have hG1 := HD1.out.size
     have hN21 : ¬ q2 = W1.heap.size := by omega
     have hS1 : W1.heap.size < (W1.alloc (.cells #[.int .i64 0, .int .i64 0, .int .i64 0, .int .i64 0, .int .i64 0, .int .i64 0, .int .i64 0, .int .i64 0, .bool false, .int .i64 0, .int .i64 0, .int .i64 0, .slice none 0 0] 59)).heap.size := by simp
     have hT21 : q2 < (W1.alloc (.cells #[.int .i64 0, .int .i64 0, .int .i64 0, .int .i64 0, .int .i64 0, .int .i64 0, .int .i64 0, .int .i64 0, .bool false, .int .i64 0, .int .i64 0, .int .i64 0, .slice none 0 0] 59)).heap.size := by omega
     generalize W1.alloc (.cells #[.int .i64 0, .int .i64 0, .int .i64 0, .int .i64 0, .int .i64 0, .int .i64 0, .int .i64 0, .int .i64 0, .bool false, .int .i64 0, .int .i64 0, .int .i64 0, .slice none 0 0] 59) = W2 at *
     generalize W1.heap.size = q1 at *
     refine wpAnyH_ready (rs := [26]) (by kernel_rfl) (by simp) ?_
     refine AllReadyH.cons rfl (fun K hK => ?_) AllReadyH.nil
     go_simp
     refine hK.out _ _ ?_ (fun hNext => ?_)
     ·exact KP.out _ (pb2 HD2.out (pal _))
     clear hK K hHeld
     have hHeld := hNext
     clear hNext
     try simp only [ga, gb, gc, Act.put, gs, gd, ge]
     have Q3 := Lib.hid (Bq.new W2 #[.int .i64 0, .int .i64 0, .int .i64 0, .int .i64 0, .int .i64 0, .int .i64 0, .int .i64 0, .int .i64 0, .bool false, .int .i64 0, .int .i64 0, .int .i64 0, .slice none 0 0] 59)
     replace Q2 := Lib.hid (Q2.out.keep (pal (.cells #[.int .i64 0, .int .i64 0, .int .i64 0, .int .i64 0, .int .i64 0, .int .i64 0, .int .i64 0, .int .i64 0, .bool false, .int .i64 0, .int .i64 0, .int .i64 0, .slice none 0 0] 59)))
     replace Q1 := Lib.hid (Q1.out.keep (pal (.cells #[.int .i64 0, .int .i64 0, .int .i64 0, .int .i64 0, .int .i64 0, .int .i64 0, .int .i64 0, .int .i64 0, .bool false, .int .i64 0, .int .i64 0, .int .i64 0, .slice none 0 0] 59)))
     have HD3 := Lib.hid (pb2 HD2.out (pal (.cells #[.int .i64 0, .int .i64 0, .int .i64 0, .int .i64 0, .int .i64 0, .int .i64 0, .int .i64 0, .int .i64 0, .bool false, .int .i64 0, .int .i64 0, .int .i64 0, .slice none 0 0] 59)))
     have hG3 := HD2.out.size
     have hN23 : ¬ q2 = W2.heap.size := by omega
     have hN13 : ¬ q1 = W2.heap.size := by omega
     have hS3 : W2.heap.size < (W2.alloc (.cells #[.int .i64 0, .int .i64 0, .int .i64 0, .int .i64 0, .int .i64 0, .int .i64 0, .int .i64 0, .int .i64 0, .bool false, .int .i64 0, .int .i64 0, .int .i64 0, .slice none 0 0] 59)).heap.size := by simp
     have hT23 : q2 < (W2.alloc (.cells #[.int .i64 0, .int .i64 0, .int .i64 0, .int .i64 0, .int .i64 0, .int .i64 0, .int .i64 0, .int .i64 0, .bool false, .int .i64 0, .int .i64 0, .int .i64 0, .slice none 0 0] 59)).heap.size := by omega
     have hT13 : q1 < (W2.alloc (.cells #[.int .i64 0, .int .i64 0, .int .i64 0, .int .i64 0, .int .i64 0, .int .i64 0, .int .i64 0, .int .i64 0, .bool false, .int .i64 0, .int .i64 0, .int .i64 0, .slice none 0 0] 59)).heap.size := by omega
     generalize W2.alloc (.cells #[.int .i64 0, .int .i64 0, .int .i64 0, .int .i64 0, .int .i64 0, .int .i64 0, .int .i64 0, .int .i64 0, .bool false, .int .i64 0, .int .i64 0, .int .i64 0, .slice none 0 0] 59) = W3 at *
     generalize W2.heap.size = q3 at *
     refine wpAnyH_ready (rs := [27]) (by kernel_rfl) (by simp) ?_
     refine AllReadyH.cons rfl (fun K hK => ?_) AllReadyH.nil
     have y0 := Q1.out.at_ 0 _ rfl
     have y1 := Q1.out.at_ 1 _ rfl
     have y2 := Q1.out.at_ 2 _ rfl
     have y3 := Q1.out.at_ 3 _ rfl
     have y4 := Q1.out.at_ 4 _ rfl
     have y5 := Q1.out.at_ 5 _ rfl
     have y6 := Q1.out.at_ 6 _ rfl
     have y7 := Q1.out.at_ 7 _ rfl
     have y8 := Q1.out.at_ 8 _ rfl
     have y9 := Q1.out.at_ 9 _ rfl
     have y10 := Q1.out.at_ 10 _ rfl
     have y11 := Q1.out.at_ 11 _ rfl
     have y12 := Q1.out.at_ 12 _ rfl
     have z0 := Q1.out.fr 0
     have z1 := Q1.out.fr 1
     have z2 := Q1.out.fr 2
     have z3 := Q1.out.fr 3
     have z4 := Q1.out.fr 4
     have z5 := Q1.out.fr 5
     have z6 := Q1.out.fr 6
     have z7 := Q1.out.fr 7
     have z8 := Q1.out.fr 8
     have z9 := Q1.out.fr 9
     have z10 := Q1.out.fr 10
     have z11 := Q1.out.fr 11
     have z12 := Q1.out.fr 12
     go_simp
     have HX := stC_below (w0 := w4) (g := q1) hG1 [.int .i64 t1, .int .i64 f1, .int .i64 g1, .int .i64 oc1, .int .i64 ok1, .int .i64 oh1, .int .i64 ov1, .int .i64 ae1, .bool ao1, .int .i64 ak1, .int .i64 av1, .int .i64 an1, .slice pa1 ap1.length pc1] 0 W3 HD3.out
     have YX := stC_same [.int .i64 t1, .int .i64 f1, .int .i64 g1, .int .i64 oc1, .int .i64 ok1, .int .i64 oh1, .int .i64 ov1, .int .i64 ae1, .bool ao1, .int .i64 ak1, .int .i64 av1, .int .i64 an1, .slice pa1 ap1.length pc1] 0 W3 _ Q1.out rfl
     have YX2 := stC_other (b := q2) (g := q1) (by omega) [.int .i64 t1, .int .i64 f1, .int .i64 g1, .int .i64 oc1, .int .i64 ok1, .int .i64 oh1, .int .i64 ov1, .int .i64 ae1, .bool ao1, .int .i64 ak1, .int .i64 av1, .int .i64 an1, .slice pa1 ap1.length pc1] 0 W3 Q2.out
     have YX3 := stC_other (b := q3) (g := q1) (by omega) [.int .i64 t1, .int .i64 f1, .int .i64 g1, .int .i64 oc1, .int .i64 ok1, .int .i64 oh1, .int .i64 ov1, .int .i64 ae1, .bool ao1, .int .i64 ak1, .int .i64 av1, .int .i64 an1, .slice pa1 ap1.length pc1] 0 W3 Q3.out
     simp only [stC, Nat.zero_add, Nat.reduceAdd, List.take_zero, List.nil_append] at HX YX YX2 YX3
     refine hK.out _ _ ?_ (fun hNext => ?_)
     ·exact KP.out _ HX
     clear hK K hHeld
     have hHeld := hNext
     clear hNext
     try simp only [ga, gb, gc, Act.put, gs, gd, ge]
     clear y0 z0 y1 z1 y2 z2 y3 z3 y4 z4 y5 z5 y6 z6 y7 z7 y8 z8 y9 z9 y10 z10 y11 z11 y12 z12
     have HD4 := Lib.hid HX
     clear Q1 Q2 Q3
     have Q1 := Lib.hid YX
     have Q2 := Lib.hid YX2
     have Q3 := Lib.hid YX3
     clear HX YX YX2 YX3
     generalize (((((((((((((W3.setCell ⟨q1, 0, none⟩ (.int .i64 t1)).setCell ⟨q1, 1, none⟩ (.int .i64 f1)).setCell ⟨q1, 2, none⟩ (.int .i64 g1)).setCell ⟨q1, 3, none⟩ (.int .i64 oc1)).setCell ⟨q1, 4, none⟩ (.int .i64 ok1)).setCell ⟨q1, 5, none⟩ (.int .i64 oh1)).setCell ⟨q1, 6, none⟩ (.int .i64 ov1)).setCell ⟨q1, 7, none⟩ (.int .i64 ae1)).setCell ⟨q1, 8, none⟩ (.bool ao1)).setCell ⟨q1, 9, none⟩ (.int .i64 ak1)).setCell ⟨q1, 10, none⟩ (.int .i64 av1)).setCell ⟨q1, 11, none⟩ (.int .i64 an1)).setCell ⟨q1, 12, none⟩ (.slice pa1 ap1.length pc1)) = W4 at *
     refine wpAnyH_ready (rs := [28]) (by kernel_rfl) (by simp) ?_
     refine AllReadyH.cons rfl (fun K hK => ?_) AllReadyH.nil
     have y0 := Q2.out.at_ 0 _ rfl
     have y1 := Q2.out.at_ 1 _ rfl
     have y2 := Q2.out.at_ 2 _ rfl
     have y3 := Q2.out.at_ 3 _ rfl
     have y4 := Q2.out.at_ 4 _ rfl
     have y5 := Q2.out.at_ 5 _ rfl
     have y6 := Q2.out.at_ 6 _ rfl
     have y7 := Q2.out.at_ 7 _ rfl
     have y8 := Q2.out.at_ 8 _ rfl
     have y9 := Q2.out.at_ 9 _ rfl
     have y10 := Q2.out.at_ 10 _ rfl
     have y11 := Q2.out.at_ 11 _ rfl
     have y12 := Q2.out.at_ 12 _ rfl
     have z0 := Q2.out.fr 0
     have z1 := Q2.out.fr 1
     have z2 := Q2.out.fr 2
     have z3 := Q2.out.fr 3
     have z4 := Q2.out.fr 4
     have z5 := Q2.out.fr 5
     have z6 := Q2.out.fr 6
     have z7 := Q2.out.fr 7
     have z8 := Q2.out.fr 8
     have z9 := Q2.out.fr 9
     have z10 := Q2.out.fr 10
     have z11 := Q2.out.fr 11
     have z12 := Q2.out.fr 12
     go_simp
     have HX := stC_below (w0 := w4) (g := q2) hG2 [.int .i64 t2, .int .i64 f2, .int .i64 g2, .int .i64 oc2, .int .i64 ok2, .int .i64 oh2, .int .i64 ov2, .int .i64 ae2, .bool ao2, .int .i64 ak2, .int .i64 av2, .int .i64 an2, .slice pa2 ap2.length pc2] 0 W4 HD4.out
     have YX := stC_same [.int .i64 t2, .int .i64 f2, .int .i64 g2, .int .i64 oc2, .int .i64 ok2, .int .i64 oh2, .int .i64 ov2, .int .i64 ae2, .bool ao2, .int .i64 ak2, .int .i64 av2, .int .i64 an2, .slice pa2 ap2.length pc2] 0 W4 _ Q2.out rfl
     have YX1 := stC_other (b := q1) (g := q2) (by omega) [.int .i64 t2, .int .i64 f2, .int .i64 g2, .int .i64 oc2, .int .i64 ok2, .int .i64 oh2, .int .i64 ov2, .int .i64 ae2, .bool ao2, .int .i64 ak2, .int .i64 av2, .int .i64 an2, .slice pa2 ap2.length pc2] 0 W4 Q1.out
     have YX3 := stC_other (b := q3) (g := q2) (by omega) [.int .i64 t2, .int .i64 f2, .int .i64 g2, .int .i64 oc2, .int .i64 ok2, .int .i64 oh2, .int .i64 ov2, .int .i64 ae2, .bool ao2, .int .i64 ak2, .int .i64 av2, .int .i64 an2, .slice pa2 ap2.length pc2] 0 W4 Q3.out
     simp only [stC, Nat.zero_add, Nat.reduceAdd, List.take_zero, List.nil_append] at HX YX YX1 YX3
     refine hK.out _ _ ?_ (fun hNext => ?_)
     ·exact KP.out _ HX
     clear hK K hHeld
     have hHeld := hNext
     clear hNext
     try simp only [ga, gb, gc, Act.put, gs, gd, ge]
     clear y0 z0 y1 z1 y2 z2 y3 z3 y4 z4 y5 z5 y6 z6 y7 z7 y8 z8 y9 z9 y10 z10 y11 z11 y12 z12
     have HD5 := Lib.hid HX
     clear Q2 Q1 Q3
     have Q2 := Lib.hid YX
     have Q1 := Lib.hid YX1
     have Q3 := Lib.hid YX3
     clear HX YX YX1 YX3
     generalize (((((((((((((W4.setCell ⟨q2, 0, none⟩ (.int .i64 t2)).setCell ⟨q2, 1, none⟩ (.int .i64 f2)).setCell ⟨q2, 2, none⟩ (.int .i64 g2)).setCell ⟨q2, 3, none⟩ (.int .i64 oc2)).setCell ⟨q2, 4, none⟩ (.int .i64 ok2)).setCell ⟨q2, 5, none⟩ (.int .i64 oh2)).setCell ⟨q2, 6, none⟩ (.int .i64 ov2)).setCell ⟨q2, 7, none⟩ (.int .i64 ae2)).setCell ⟨q2, 8, none⟩ (.bool ao2)).setCell ⟨q2, 9, none⟩ (.int .i64 ak2)).setCell ⟨q2, 10, none⟩ (.int .i64 av2)).setCell ⟨q2, 11, none⟩ (.int .i64 an2)).setCell ⟨q2, 12, none⟩ (.slice pa2 ap2.length pc2)) = W5 at *
     refine wpAnyH_ready (rs := [29]) (by kernel_rfl) (by simp) ?_
     refine AllReadyH.cons rfl (fun K hK => ?_) AllReadyH.nil
     have y0 := Q3.out.at_ 0 _ rfl
     have y1 := Q3.out.at_ 1 _ rfl
     have y2 := Q3.out.at_ 2 _ rfl
     have y3 := Q3.out.at_ 3 _ rfl
     have y4 := Q3.out.at_ 4 _ rfl
     have y5 := Q3.out.at_ 5 _ rfl
     have y6 := Q3.out.at_ 6 _ rfl
     have y7 := Q3.out.at_ 7 _ rfl
     have y8 := Q3.out.at_ 8 _ rfl
     have y9 := Q3.out.at_ 9 _ rfl
     have y10 := Q3.out.at_ 10 _ rfl
     have y11 := Q3.out.at_ 11 _ rfl
     have y12 := Q3.out.at_ 12 _ rfl
     have z0 := Q3.out.fr 0
     have z1 := Q3.out.fr 1
     have z2 := Q3.out.fr 2
     have z3 := Q3.out.fr 3
     have z4 := Q3.out.fr 4
     have z5 := Q3.out.fr 5
     have z6 := Q3.out.fr 6
     have z7 := Q3.out.fr 7
     have z8 := Q3.out.fr 8
     have z9 := Q3.out.fr 9
     have z10 := Q3.out.fr 10
     have z11 := Q3.out.fr 11
     have z12 := Q3.out.fr 12
     go_simp
     have HX := stC_below (w0 := w4) (g := q3) hG3 [.int .i64 t3, .int .i64 f3, .int .i64 g3, .int .i64 oc3, .int .i64 ok3, .int .i64 oh3, .int .i64 ov3, .int .i64 ae3, .bool ao3, .int .i64 ak3, .int .i64 av3, .int .i64 an3, .slice pa3 ap3.length pc3] 0 W5 HD5.out
     have YX := stC_same [.int .i64 t3, .int .i64 f3, .int .i64 g3, .int .i64 oc3, .int .i64 ok3, .int .i64 oh3, .int .i64 ov3, .int .i64 ae3, .bool ao3, .int .i64 ak3, .int .i64 av3, .int .i64 an3, .slice pa3 ap3.length pc3] 0 W5 _ Q3.out rfl
     have YX1 := stC_other (b := q1) (g := q3) (by omega) [.int .i64 t3, .int .i64 f3, .int .i64 g3, .int .i64 oc3, .int .i64 ok3, .int .i64 oh3, .int .i64 ov3, .int .i64 ae3, .bool ao3, .int .i64 ak3, .int .i64 av3, .int .i64 an3, .slice pa3 ap3.length pc3] 0 W5 Q1.out
     have YX2 := stC_other (b := q2) (g := q3) (by omega) [.int .i64 t3, .int .i64 f3, .int .i64 g3, .int .i64 oc3, .int .i64 ok3, .int .i64 oh3, .int .i64 ov3, .int .i64 ae3, .bool ao3, .int .i64 ak3, .int .i64 av3, .int .i64 an3, .slice pa3 ap3.length pc3] 0 W5 Q2.out
     simp only [stC, Nat.zero_add, Nat.reduceAdd, List.take_zero, List.nil_append] at HX YX YX1 YX2
     refine hK.out _ _ ?_ (fun hNext => ?_)
     ·exact KP.out _ HX
     clear hK K hHeld
     have hHeld := hNext
     clear hNext
     try simp only [ga, gb, gc, Act.put, gs, gd, ge]
     clear y0 z0 y1 z1 y2 z2 y3 z3 y4 z4 y5 z5 y6 z6 y7 z7 y8 z8 y9 z9 y10 z10 y11 z11 y12 z12
     have HD6 := Lib.hid HX
     clear Q3 Q1 Q2
     have Q3 := Lib.hid YX
     have Q1 := Lib.hid YX1
     have Q2 := Lib.hid YX2
     clear HX YX YX1 YX2
     generalize (((((((((((((W5.setCell ⟨q3, 0, none⟩ (.int .i64 t3)).setCell ⟨q3, 1, none⟩ (.int .i64 f3)).setCell ⟨q3, 2, none⟩ (.int .i64 g3)).setCell ⟨q3, 3, none⟩ (.int .i64 oc3)).setCell ⟨q3, 4, none⟩ (.int .i64 ok3)).setCell ⟨q3, 5, none⟩ (.int .i64 oh3)).setCell ⟨q3, 6, none⟩ (.int .i64 ov3)).setCell ⟨q3, 7, none⟩ (.int .i64 ae3)).setCell ⟨q3, 8, none⟩ (.bool ao3)).setCell ⟨q3, 9, none⟩ (.int .i64 ak3)).setCell ⟨q3, 10, none⟩ (.int .i64 av3)).setCell ⟨q3, 11, none⟩ (.int .i64 an3)).setCell ⟨q3, 12, none⟩ (.slice pa3 ap3.length pc3)) = W6 at *
     refine wpAnyH_done (by kernel_rfl) ?_ _
     clear hHeld
     go_wp2_with (fail)
     go_meet
     exact ⟨q1, q2, q3, rfl, rfl, rfl, Q1.out, Q2.out, Q3.out, HD6.out⟩
    ·go_simp
     refine hK.out _ _ ?_ (fun hNext => ?_)
     ·exact KP.out _ (pb2 HD1.out (pal _))
     clear hK K hHeld
     have hHeld := hNext
     clear hNext
     try simp only [ga, gb, gc, Act.put, gs, gd, ge]
     have Q3 := Lib.hid (Bq.new W1 #[.int .i64 0, .int .i64 0, .int .i64 0, .int .i64 0, .int .i64 0, .int .i64 0, .int .i64 0, .int .i64 0, .bool false, .int .i64 0, .int .i64 0, .int .i64 0, .slice none 0 0] 59)
     replace Q2 := Lib.hid (Q2.out.keep (pal (.cells #[.int .i64 0, .int .i64 0, .int .i64 0, .int .i64 0, .int .i64 0, .int .i64 0, .int .i64 0, .int .i64 0, .bool false, .int .i64 0, .int .i64 0, .int .i64 0, .slice none 0 0] 59)))
     have HD2 := Lib.hid (pb2 HD1.out (pal (.cells #[.int .i64 0, .int .i64 0, .int .i64 0, .int .i64 0, .int .i64 0, .int .i64 0, .int .i64 0, .int .i64 0, .bool false, .int .i64 0, .int .i64 0, .int .i64 0, .slice none 0 0] 59)))
     have hG3 := HD1.out.size
     have hN23 : ¬ q2 = W1.heap.size := by omega
     have hS3 : W1.heap.size < (W1.alloc (.cells #[.int .i64 0, .int .i64 0, .int .i64 0, .int .i64 0, .int .i64 0, .int .i64 0, .int .i64 0, .int .i64 0, .bool false, .int .i64 0, .int .i64 0, .int .i64 0, .slice none 0 0] 59)).heap.size := by simp
     have hT23 : q2 < (W1.alloc (.cells #[.int .i64 0, .int .i64 0, .int .i64 0, .int .i64 0, .int .i64 0, .int .i64 0, .int .i64 0, .int .i64 0, .bool false, .int .i64 0, .int .i64 0, .int .i64 0, .slice none 0 0] 59)).heap.size := by omega
     generalize W1.alloc (.cells #[.int .i64 0, .int .i64 0, .int .i64 0, .int .i64 0, .int .i64 0, .int .i64 0, .int .i64 0, .int .i64 0, .bool false, .int .i64 0, .int .i64 0, .int .i64 0, .slice none 0 0] 59) = W2 at *
     generalize W1.heap.size = q3 at *
     refine wpAnyH_ready (rs := [24]) (by kernel_rfl) (by simp) ?_
     refine AllReadyH.cons rfl (fun K hK => ?_) AllReadyH.nil
     go_simp
     refine hK.out _ _ ?_ (fun hNext => ?_)
     ·exact KP.out _ (pb2 HD2.out (pal _))
     clear hK K hHeld
     have hHeld := hNext
     clear hNext
     try simp only [ga, gb, gc, Act.put, gs, gd, ge]
     have Q1 := Lib.hid (Bq.new W2 #[.int .i64 0, .int .i64 0, .int .i64 0, .int .i64 0, .int .i64 0, .int .i64 0, .int .i64 0, .int .i64 0, .bool false, .int .i64 0, .int .i64 0, .int .i64 0, .slice none 0 0] 59)
     replace Q2 := Lib.hid (Q2.out.keep (pal (.cells #[.int .i64 0, .int .i64 0, .int .i64 0, .int .i64 0, .int .i64 0, .int .i64 0, .int .i64 0, .int .i64 0, .bool false, .int .i64 0, .int .i64 0, .int .i64 0, .slice none 0 0] 59)))
     replace Q3 := Lib.hid (Q3.out.keep (pal (.cells #[.int .i64 0, .int .i64 0, .int .i64 0, .int .i64 0, .int .i64 0, .int .i64 0, .int .i64 0, .int .i64 0, .bool false, .int .i64 0, .int .i64 0, .int .i64 0, .slice none 0 0] 59)))
     have HD3 := Lib.hid (pb2 HD2.out (pal (.cells #[.int .i64 0, .int .i64 0, .int .i64 0, .int .i64 0, .int .i64 0, .int .i64 0, .int .i64 0, .int .i64 0, .bool false, .int .i64 0, .int .i64 0, .int .i64 0, .slice none 0 0] 59)))
     have hG1 := HD2.out.size
     have hN21 : ¬ q2 = W2.heap.size := by omega
     have hN31 : ¬ q3 = W2.heap.size := by omega
     have hS1 : W2.heap.size < (W2.alloc (.cells #[.int .i64 0, .int .i64 0, .int .i64 0, .int .i64 0, .int .i64 0, .int .i64 0, .int .i64 0, .int .i64 0, .bool false, .int .i64 0, .int .i64 0, .int .i64 0, .slice none 0 0] 59)).heap.size := by simp
     have hT21 : q2 < (W2.alloc (.cells #[.int .i64 0, .int .i64 0, .int .i64 0, .int .i64 0, .int .i64 0, .int .i64 0, .int .i64 0, .int .i64 0, .bool false, .int .i64 0, .int .i64 0, .int .i64 0, .slice none 0 0] 59)).heap.size := by omega
     have hT31 : q3 < (W2.alloc (.cells #[.int .i64 0, .int .i64 0, .int .i64 0, .int .i64 0, .int .i64 0, .int .i64 0, .int .i64 0, .int .i64 0, .bool false, .int .i64 0, .int .i64 0, .int .i64 0, .slice none 0 0] 59)).heap.size := by omega
     generalize W2.alloc (.cells #[.int .i64 0, .int .i64 0, .int .i64 0, .int .i64 0, .int .i64 0, .int .i64 0, .int .i64 0, .int .i64 0, .bool false, .int .i64 0, .int .i64 0, .int .i64 0, .slice none 0 0] 59) = W3 at *
     generalize W2.heap.size = q1 at *
     refine wpAnyH_ready (rs := [27]) (by kernel_rfl) (by simp) ?_
     refine AllReadyH.cons rfl (fun K hK => ?_) AllReadyH.nil
     have y0 := Q1.out.at_ 0 _ rfl
     have y1 := Q1.out.at_ 1 _ rfl
     have y2 := Q1.out.at_ 2 _ rfl
     have y3 := Q1.out.at_ 3 _ rfl
     have y4 := Q1.out.at_ 4 _ rfl
     have y5 := Q1.out.at_ 5 _ rfl
     have y6 := Q1.out.at_ 6 _ rfl
     have y7 := Q1.out.at_ 7 _ rfl
     have y8 := Q1.out.at_ 8 _ rfl
     have y9 := Q1.out.at_ 9 _ rfl
     have y10 := Q1.out.at_ 10 _ rfl
     have y11 := Q1.out.at_ 11 _ rfl
     have y12 := Q1.out.at_ 12 _ rfl
     have z0 := Q1.out.fr 0
     have z1 := Q1.out.fr 1
     have z2 := Q1.out.fr 2
     have z3 := Q1.out.fr 3
     have z4 := Q1.out.fr 4
     have z5 := Q1.out.fr 5
     have z6 := Q1.out.fr 6
     have z7 := Q1.out.fr 7
     have z8 := Q1.out.fr 8
     have z9 := Q1.out.fr 9
     have z10 := Q1.out.fr 10
     have z11 := Q1.out.fr 11
     have z12 := Q1.out.fr 12
     go_simp
     have HX := stC_below (w0 := w4) (g := q1) hG1 [.int .i64 t1, .int .i64 f1, .int .i64 g1, .int .i64 oc1, .int .i64 ok1, .int .i64 oh1, .int .i64 ov1, .int .i64 ae1, .bool ao1, .int .i64 ak1, .int .i64 av1, .int .i64 an1, .slice pa1 ap1.length pc1] 0 W3 HD3.out
     have YX := stC_same [.int .i64 t1, .int .i64 f1, .int .i64 g1, .int .i64 oc1, .int .i64 ok1, .int .i64 oh1, .int .i64 ov1, .int .i64 ae1, .bool ao1, .int .i64 ak1, .int .i64 av1, .int .i64 an1, .slice pa1 ap1.length pc1] 0 W3 _ Q1.out rfl
     have YX2 := stC_other (b := q2) (g := q1) (by omega) [.int .i64 t1, .int .i64 f1, .int .i64 g1, .int .i64 oc1, .int .i64 ok1, .int .i64 oh1, .int .i64 ov1, .int .i64 ae1, .bool ao1, .int .i64 ak1, .int .i64 av1, .int .i64 an1, .slice pa1 ap1.length pc1] 0 W3 Q2.out
     have YX3 := stC_other (b := q3) (g := q1) (by omega) [.int .i64 t1, .int .i64 f1, .int .i64 g1, .int .i64 oc1, .int .i64 ok1, .int .i64 oh1, .int .i64 ov1, .int .i64 ae1, .bool ao1, .int .i64 ak1, .int .i64 av1, .int .i64 an1, .slice pa1 ap1.length pc1] 0 W3 Q3.out
     simp only [stC, Nat.zero_add, Nat.reduceAdd, List.take_zero, List.nil_append] at HX YX YX2 YX3
     refine hK.out _ _ ?_ (fun hNext => ?_)
     ·exact KP.out _ HX
     clear hK K hHeld
     have hHeld := hNext
     clear hNext
     try simp only [ga, gb, gc, Act.put, gs, gd, ge]
     clear y0 z0 y1 z1 y2 z2 y3 z3 y4 z4 y5 z5 y6 z6 y7 z7 y8 z8 y9 z9 y10 z10 y11 z11 y12 z12
     have HD4 := Lib.hid HX
     clear Q1 Q2 Q3
     have Q1 := Lib.hid YX
     have Q2 := Lib.hid YX2
     have Q3 := Lib.hid YX3
     clear HX YX YX2 YX3
     generalize (((((((((((((W3.setCell ⟨q1, 0, none⟩ (.int .i64 t1)).setCell ⟨q1, 1, none⟩ (.int .i64 f1)).setCell ⟨q1, 2, none⟩ (.int .i64 g1)).setCell ⟨q1, 3, none⟩ (.int .i64 oc1)).setCell ⟨q1, 4, none⟩ (.int .i64 ok1)).setCell ⟨q1, 5, none⟩ (.int .i64 oh1)).setCell ⟨q1, 6, none⟩ (.int .i64 ov1)).setCell ⟨q1, 7, none⟩ (.int .i64 ae1)).setCell ⟨q1, 8, none⟩ (.bool ao1)).setCell ⟨q1, 9, none⟩ (.int .i64 ak1)).setCell ⟨q1, 10, none⟩ (.int .i64 av1)).setCell ⟨q1, 11, none⟩ (.int .i64 an1)).setCell ⟨q1, 12, none⟩ (.slice pa1 ap1.length pc1)) = W4 at *
     refine wpAnyH_ready (rs := [28]) (by kernel_rfl) (by simp) ?_
     refine AllReadyH.cons rfl (fun K hK => ?_) AllReadyH.nil
     have y0 := Q2.out.at_ 0 _ rfl
     have y1 := Q2.out.at_ 1 _ rfl
     have y2 := Q2.out.at_ 2 _ rfl
     have y3 := Q2.out.at_ 3 _ rfl
     have y4 := Q2.out.at_ 4 _ rfl
     have y5 := Q2.out.at_ 5 _ rfl
     have y6 := Q2.out.at_ 6 _ rfl
     have y7 := Q2.out.at_ 7 _ rfl
     have y8 := Q2.out.at_ 8 _ rfl
     have y9 := Q2.out.at_ 9 _ rfl
     have y10 := Q2.out.at_ 10 _ rfl
     have y11 := Q2.out.at_ 11 _ rfl
     have y12 := Q2.out.at_ 12 _ rfl
     have z0 := Q2.out.fr 0
     have z1 := Q2.out.fr 1
     have z2 := Q2.out.fr 2
     have z3 := Q2.out.fr 3
     have z4 := Q2.out.fr 4
     have z5 := Q2.out.fr 5
     have z6 := Q2.out.fr 6
     have z7 := Q2.out.fr 7
     have z8 := Q2.out.fr 8
     have z9 := Q2.out.fr 9
     have z10 := Q2.out.fr 10
     have z11 := Q2.out.fr 11
     have z12 := Q2.out.fr 12
     go_simp
     have HX := stC_below (w0 := w4) (g := q2) hG2 [.int .i64 t2, .int .i64 f2, .int .i64 g2, .int .i64 oc2, .int .i64 ok2, .int .i64 oh2, .int .i64 ov2, .int .i64 ae2, .bool ao2, .int .i64 ak2, .int .i64 av2, .int .i64 an2, .slice pa2 ap2.length pc2] 0 W4 HD4.out
     have YX := stC_same [.int .i64 t2, .int .i64 f2, .int .i64 g2, .int .i64 oc2, .int .i64 ok2, .int .i64 oh2, .int .i64 ov2, .int .i64 ae2, .bool ao2, .int .i64 ak2, .int .i64 av2, .int .i64 an2, .slice pa2 ap2.length pc2] 0 W4 _ Q2.out rfl
     have YX1 := stC_other (b := q1) (g := q2) (by omega) [.int .i64 t2, .int .i64 f2, .int .i64 g2, .int .i64 oc2, .int .i64 ok2, .int .i64 oh2, .int .i64 ov2, .int .i64 ae2, .bool ao2, .int .i64 ak2, .int .i64 av2, .int .i64 an2, .slice pa2 ap2.length pc2] 0 W4 Q1.out
     have YX3 := stC_other (b := q3) (g := q2) (by omega) [.int .i64 t2, .int .i64 f2, .int .i64 g2, .int .i64 oc2, .int .i64 ok2, .int .i64 oh2, .int .i64 ov2, .int .i64 ae2, .bool ao2, .int .i64 ak2, .int .i64 av2, .int .i64 an2, .slice pa2 ap2.length pc2] 0 W4 Q3.out
     simp only [stC, Nat.zero_add, Nat.reduceAdd, List.take_zero, List.nil_append] at HX YX YX1 YX3
     refine hK.out _ _ ?_ (fun hNext => ?_)
     ·exact KP.out _ HX
     clear hK K hHeld
     have hHeld := hNext
     clear hNext
     try simp only [ga, gb, gc, Act.put, gs, gd, ge]
     clear y0 z0 y1 z1 y2 z2 y3 z3 y4 z4 y5 z5 y6 z6 y7 z7 y8 z8 y9 z9 y10 z10 y11 z11 y12 z12
     have HD5 := Lib.hid HX
     clear Q2 Q1 Q3
     have Q2 := Lib.hid YX
     have Q1 := Lib.hid YX1
     have Q3 := Lib.hid YX3
     clear HX YX YX1 YX3
     generalize (((((((((((((W4.setCell ⟨q2, 0, none⟩ (.int .i64 t2)).setCell ⟨q2, 1, none⟩ (.int .i64 f2)).setCell ⟨q2, 2, none⟩ (.int .i64 g2)).setCell ⟨q2, 3, none⟩ (.int .i64 oc2)).setCell ⟨q2, 4, none⟩ (.int .i64 ok2)).setCell ⟨q2, 5, none⟩ (.int .i64 oh2)).setCell ⟨q2, 6, none⟩ (.int .i64 ov2)).setCell ⟨q2, 7, none⟩ (.int .i64 ae2)).setCell ⟨q2, 8, none⟩ (.bool ao2)).setCell ⟨q2, 9, none⟩ (.int .i64 ak2)).setCell ⟨q2, 10, none⟩ (.int .i64 av2)).setCell ⟨q2, 11, none⟩ (.int .i64 an2)).setCell ⟨q2, 12, none⟩ (.slice pa2 ap2.length pc2)) = W5 at *
     refine wpAnyH_ready (rs := [29]) (by kernel_rfl) (by simp) ?_
     refine AllReadyH.cons rfl (fun K hK => ?_) AllReadyH.nil
     have y0 := Q3.out.at_ 0 _ rfl
     have y1 := Q3.out.at_ 1 _ rfl
     have y2 := Q3.out.at_ 2 _ rfl
     have y3 := Q3.out.at_ 3 _ rfl
     have y4 := Q3.out.at_ 4 _ rfl
     have y5 := Q3.out.at_ 5 _ rfl
     have y6 := Q3.out.at_ 6 _ rfl
     have y7 := Q3.out.at_ 7 _ rfl
     have y8 := Q3.out.at_ 8 _ rfl
     have y9 := Q3.out.at_ 9 _ rfl
     have y10 := Q3.out.at_ 10 _ rfl
     have y11 := Q3.out.at_ 11 _ rfl
     have y12 := Q3.out.at_ 12 _ rfl
     have z0 := Q3.out.fr 0
     have z1 := Q3.out.fr 1
     have z2 := Q3.out.fr 2
     have z3 := Q3.out.fr 3
     have z4 := Q3.out.fr 4
     have z5 := Q3.out.fr 5
     have z6 := Q3.out.fr 6
     have z7 := Q3.out.fr 7
     have z8 := Q3.out.fr 8
     have z9 := Q3.out.fr 9
     have z10 := Q3.out.fr 10
     have z11 := Q3.out.fr 11
     have z12 := Q3.out.fr 12
     go_simp
     have HX := stC_below (w0 := w4) (g := q3) hG3 [.int .i64 t3, .int .i64 f3, .int .i64 g3, .int .i64 oc3, .int .i64 ok3, .int .i64 oh3, .int .i64 ov3, .int .i64 ae3, .bool ao3, .int .i64 ak3, .int .i64 av3, .int .i64 an3, .slice pa3 ap3.length pc3] 0 W5 HD5.out
     have YX := stC_same [.int .i64 t3, .int .i64 f3, .int .i64 g3, .int .i64 oc3, .int .i64 ok3, .int .i64 oh3, .int .i64 ov3, .int .i64 ae3, .bool ao3, .int .i64 ak3, .int .i64 av3, .int .i64 an3, .slice pa3 ap3.length pc3] 0 W5 _ Q3.out rfl
     have YX1 := stC_other (b := q1) (g := q3) (by omega) [.int .i64 t3, .int .i64 f3, .int .i64 g3, .int .i64 oc3, .int .i64 ok3, .int .i64 oh3, .int .i64 ov3, .int .i64 ae3, .bool ao3, .int .i64 ak3, .int .i64 av3, .int .i64 an3, .slice pa3 ap3.length pc3] 0 W5 Q1.out
     have YX2 := stC_other (b := q2) (g := q3) (by omega) [.int .i64 t3, .int .i64 f3, .int .i64 g3, .int .i64 oc3, .int .i64 ok3, .int .i64 oh3, .int .i64 ov3, .int .i64 ae3, .bool ao3, .int .i64 ak3, .int .i64 av3, .int .i64 an3, .slice pa3 ap3.length pc3] 0 W5 Q2.out
     simp only [stC, Nat.zero_add, Nat.reduceAdd, List.take_zero, List.nil_append] at HX YX YX1 YX2
     refine hK.out _ _ ?_ (fun hNext => ?_)
     ·exact KP.out _ HX
     clear hK K hHeld
     have hHeld := hNext
     clear hNext
     try simp only [ga, gb, gc, Act.put, gs, gd, ge]
     clear y0 z0 y1 z1 y2 z2 y3 z3 y4 z4 y5 z5 y6 z6 y7 z7 y8 z8 y9 z9 y10 z10 y11 z11 y12 z12
     have HD6 := Lib.hid HX
     clear Q3 Q1 Q2
     have Q3 := Lib.hid YX
     have Q1 := Lib.hid YX1
     have Q2 := Lib.hid YX2
     clear HX YX YX1 YX2
     generalize (((((((((((((W5.setCell ⟨q3, 0, none⟩ (.int .i64 t3)).setCell ⟨q3, 1, none⟩ (.int .i64 f3)).setCell ⟨q3, 2, none⟩ (.int .i64 g3)).setCell ⟨q3, 3, none⟩ (.int .i64 oc3)).setCell ⟨q3, 4, none⟩ (.int .i64 ok3)).setCell ⟨q3, 5, none⟩ (.int .i64 oh3)).setCell ⟨q3, 6, none⟩ (.int .i64 ov3)).setCell ⟨q3, 7, none⟩ (.int .i64 ae3)).setCell ⟨q3, 8, none⟩ (.bool ao3)).setCell ⟨q3, 9, none⟩ (.int .i64 ak3)).setCell ⟨q3, 10, none⟩ (.int .i64 av3)).setCell ⟨q3, 11, none⟩ (.int .i64 an3)).setCell ⟨q3, 12, none⟩ (.slice pa3 ap3.length pc3)) = W6 at *
     refine wpAnyH_done (by kernel_rfl) ?_ _
     clear hHeld
     go_wp2_with (fail)
     go_meet
     exact ⟨q1, q2, q3, rfl, rfl, rfl, Q1.out, Q2.out, Q3.out, HD6.out⟩
   ·go_simp
    refine hK.out _ _ ?_ (fun hNext => ?_)
    ·exact KP.out _ (pb2 HD0.out (pal _))
    clear hK K hHeld
    have hHeld := hNext
    clear hNext
    try simp only [ga, gb, gc, Act.put, gs, gd, ge]
    have Q3 := Lib.hid (Bq.new W0 #[.int .i64 0, .int .i64 0, .int .i64 0, .int .i64 0, .int .i64 0, .int .i64 0, .int .i64 0, .int .i64 0, .bool false, .int .i64 0, .int .i64 0, .int .i64 0, .slice none 0 0] 59)
    have HD1 := Lib.hid (pb2 HD0.out (pal (.cells #[.int .i64 0, .int .i64 0, .int .i64 0, .int .i64 0, .int .i64 0, .int .i64 0, .int .i64 0, .int .i64 0, .bool false, .int .i64 0, .int .i64 0, .int .i64 0, .slice none 0 0] 59)))
    have hG3 := HD0.out.size
    have hS3 : W0.heap.size < (W0.alloc (.cells #[.int .i64 0, .int .i64 0, .int .i64 0, .int .i64 0, .int .i64 0, .int .i64 0, .int .i64 0, .int .i64 0, .bool false, .int .i64 0, .int .i64 0, .int .i64 0, .slice none 0 0] 59)).heap.size := by simp
    generalize W0.alloc (.cells #[.int .i64 0, .int .i64 0, .int .i64 0, .int .i64 0, .int .i64 0, .int .i64 0, .int .i64 0, .int .i64 0, .bool false, .int .i64 0, .int .i64 0, .int .i64 0, .slice none 0 0] 59) = W1 at *
    generalize W0.heap.size = q3 at *
    refine wpAnyH_ready (rs := [24, 25]) (by kernel_rfl) (by simp) ?_
    refine AllReadyH.cons rfl (fun K hK => ?_) (AllReadyH.cons rfl (fun K hK => ?_) AllReadyH.nil)
    ·go_simp
     refine hK.out _ _ ?_ (fun hNext => ?_)
     ·exact KP.out _ (pb2 HD1.out (pal _))
     clear hK K hHeld
     have hHeld := hNext
     clear hNext
     try simp only [ga, gb, gc, Act.put, gs, gd, ge]
     have Q1 := Lib.hid (Bq.new W1 #[.int .i64 0, .int .i64 0, .int .i64 0, .int .i64 0, .int .i64 0, .int .i64 0, .int .i64 0, .int .i64 0, .bool false, .int .i64 0, .int .i64 0, .int .i64 0, .slice none 0 0] 59)
     replace Q3 := Lib.hid (Q3.out.keep (pal (.cells #[.int .i64 0, .int .i64 0, .int .i64 0, .int .i64 0, .int .i64 0, .int .i64 0, .int .i64 0, .int .i64 0, .bool false, .int .i64 0, .int .i64 0, .int .i64 0, .slice none 0 0] 59)))
     have HD2 := Lib.hid (pb2 HD1.out (pal (.cells #[.int .i64 0, .int .i64 0, .int .i64 0, .int .i64 0, .int .i64 0, .int .i64 0, .int .i64 0, .int .i64 0, .bool false, .int .i64 0, .int .i64 0, .int .i64 0, .slice none 0 0] 59)))
     have hG1 := HD1.out.size
     have hN31 : ¬ q3 = W1.heap.size := by omega
     have hS1 : W1.heap.size < (W1.alloc (.cells #[.int .i64 0, .int .i64 0, .int .i64 0, .int .i64 0, .int .i64 0, .int .i64 0, .int .i64 0, .int .i64 0, .bool false, .int .i64 0, .int .i64 0, .int .i64 0, .slice none 0 0] 59)).heap.size := by simp
     have hT31 : q3 < (W1.alloc (.cells #[.int .i64 0, .int .i64 0, .int .i64 0, .int .i64 0, .int .i64 0, .int .i64 0, .int .i64 0, .int .i64 0, .bool false, .int .i64 0, .int .i64 0, .int .i64 0, .slice none 0 0] 59)).heap.size := by omega
     generalize W1.alloc (.cells #[.int .i64 0, .int .i64 0, .int .i64 0, .int .i64 0, .int .i64 0, .int .i64 0, .int .i64 0, .int .i64 0, .bool false, .int .i64 0, .int .i64 0, .int .i64 0, .slice none 0 0] 59) = W2 at *
     generalize W1.heap.size = q1 at *
     refine wpAnyH_ready (rs := [25]) (by kernel_rfl) (by simp) ?_
     refine AllReadyH.cons rfl (fun K hK => ?_) AllReadyH.nil
     go_simp
     refine hK.out _ _ ?_ (fun hNext => ?_)
     ·exact KP.out _ (pb2 HD2.out (pal _))
     clear hK K hHeld
     have hHeld := hNext
     clear hNext
     try simp only [ga, gb, gc, Act.put, gs, gd, ge]
     have Q2 := Lib.hid (Bq.new W2 #[.int .i64 0, .int .i64 0, .int .i64 0, .int .i64 0, .int .i64 0, .int .i64 0, .int .i64 0, .int .i64 0, .bool false, .int .i64 0, .int .i64 0, .int .i64 0, .slice none 0 0] 59)
     replace Q3 := Lib.hid (Q3.out.keep (pal (.cells #[.int .i64 0, .int .i64 0, .int .i64 0, .int .i64 0, .int .i64 0, .int .i64 0, .int .i64 0, .int .i64 0, .bool false, .int .i64 0, .int .i64 0, .int .i64 0, .slice none 0 0] 59)))
     replace Q1 := Lib.hid (Q1.out.keep (pal (.cells #[.int .i64 0, .int .i64 0, .int .i64 0, .int .i64 0, .int .i64 0, .int .i64 0, .int .i64 0, .int .i64 0, .bool false, .int .i64 0, .int .i64 0, .int .i64 0, .slice none 0 0] 59)))
     have HD3 := Lib.hid (pb2 HD2.out (pal (.cells #[.int .i64 0, .int .i64 0, .int .i64 0, .int .i64 0, .int .i64 0, .int .i64 0, .int .i64 0, .int .i64 0, .bool false, .int .i64 0, .int .i64 0, .int .i64 0, .slice none 0 0] 59)))
     have hG2 := HD2.out.size
     have hN32 : ¬ q3 = W2.heap.size := by omega
     have hN12 : ¬ q1 = W2.heap.size := by omega
     have hS2 : W2.heap.size < (W2.alloc (.cells #[.int .i64 0, .int .i64 0, .int .i64 0, .int .i64 0, .int .i64 0, .int .i64 0, .int .i64 0, .int .i64 0, .bool false, .int .i64 0, .int .i64 0, .int .i64 0, .slice none 0 0] 59)).heap.size := by simp
     have hT32 : q3 < (W2.alloc (.cells #[.int .i64 0, .int .i64 0, .int .i64 0, .int .i64 0, .int .i64 0, .int .i64 0, .int .i64 0, .int .i64 0, .bool false, .int .i64 0, .int .i64 0, .int .i64 0, .slice none 0 0] 59)).heap.size := by omega
     have hT12 : q1 < (W2.alloc (.cells #[.int .i64 0, .int .i64 0, .int .i64 0, .int .i64 0, .int .i64 0, .int .i64 0, .int .i64 0, .int .i64 0, .bool false, .int .i64 0, .int .i64 0, .int .i64 0, .slice none 0 0] 59)).heap.size := by omega
     generalize W2.alloc (.cells #[.int .i64 0, .int .i64 0, .int .i64 0, .int .i64 0, .int .i64 0, .int .i64 0, .int .i64 0, .int .i64 0, .bool false, .int .i64 0, .int .i64 0, .int .i64 0, .slice none 0 0] 59) = W3 at *
     generalize W2.heap.size = q2 at *
     refine wpAnyH_ready (rs := [27]) (by kernel_rfl) (by simp) ?_
     refine AllReadyH.cons rfl (fun K hK => ?_) AllReadyH.nil
     have y0 := Q1.out.at_ 0 _ rfl
     have y1 := Q1.out.at_ 1 _ rfl
     have y2 := Q1.out.at_ 2 _ rfl
     have y3 := Q1.out.at_ 3 _ rfl
     have y4 := Q1.out.at_ 4 _ rfl
     have y5 := Q1.out.at_ 5 _ rfl
     have y6 := Q1.out.at_ 6 _ rfl
     have y7 := Q1.out.at_ 7 _ rfl
     have y8 := Q1.out.at_ 8 _ rfl
     have y9 := Q1.out.at_ 9 _ rfl
     have y10 := Q1.out.at_ 10 _ rfl
     have y11 := Q1.out.at_ 11 _ rfl
     have y12 := Q1.out.at_ 12 _ rfl
     have z0 := Q1.out.fr 0
     have z1 := Q1.out.fr 1
     have z2 := Q1.out.fr 2
     have z3 := Q1.out.fr 3
     have z4 := Q1.out.fr 4
     have z5 := Q1.out.fr 5
     have z6 := Q1.out.fr 6
     have z7 := Q1.out.fr 7
     have z8 := Q1.out.fr 8
     have z9 := Q1.out.fr 9
     have z10 := Q1.out.fr 10
     have z11 := Q1.out.fr 11
     have z12 := Q1.out.fr 12
     go_simp
     have HX := stC_below (w0 := w4) (g := q1) hG1 [.int .i64 t1, .int .i64 f1, .int .i64 g1, .int .i64 oc1, .int .i64 ok1, .int .i64 oh1, .int .i64 ov1, .int .i64 ae1, .bool ao1, .int .i64 ak1, .int .i64 av1, .int .i64 an1, .slice pa1 ap1.length pc1] 0 W3 HD3.out
     have YX := stC_same [.int .i64 t1, .int .i64 f1, .int .i64 g1, .int .i64 oc1, .int .i64 ok1, .int .i64 oh1, .int .i64 ov1, .int .i64 ae1, .bool ao1, .int .i64 ak1, .int .i64 av1, .int .i64 an1, .slice pa1 ap1.length pc1] 0 W3 _ Q1.out rfl
     have YX2 := stC_other (b := q2) (g := q1) (by omega) [.int .i64 t1, .int .i64 f1, .int .i64 g1, .int .i64 oc1, .int .i64 ok1, .int .i64 oh1, .int .i64 ov1, .int .i64 ae1, .bool ao1, .int .i64 ak1, .int .i64 av1, .int .i64 an1, .slice pa1 ap1.length pc1] 0 W3 Q2.out
     have YX3 := stC_other (b := q3) (g := q1) (by omega) [.int .i64 t1, .int .i64 f1, .int .i64 g1, .int .i64 oc1, .int .i64 ok1, .int .i64 oh1, .int .i64 ov1, .int .i64 ae1, .bool ao1, .int .i64 ak1, .int .i64 av1, .int .i64 an1, .slice pa1 ap1.length pc1] 0 W3 Q3.out
     simp only [stC, Nat.zero_add, Nat.reduceAdd, List.take_zero, List.nil_append] at HX YX YX2 YX3
     refine hK.out _ _ ?_ (fun hNext => ?_)
     ·exact KP.out _ HX
     clear hK K hHeld
     have hHeld := hNext
     clear hNext
     try simp only [ga, gb, gc, Act.put, gs, gd, ge]
     clear y0 z0 y1 z1 y2 z2 y3 z3 y4 z4 y5 z5 y6 z6 y7 z7 y8 z8 y9 z9 y10 z10 y11 z11 y12 z12
     have HD4 := Lib.hid HX
     clear Q1 Q2 Q3
     have Q1 := Lib.hid YX
     have Q2 := Lib.hid YX2
     have Q3 := Lib.hid YX3
     clear HX YX YX2 YX3
     generalize (((((((((((((W3.setCell ⟨q1, 0, none⟩ (.int .i64 t1)).setCell ⟨q1, 1, none⟩ (.int .i64 f1)).setCell ⟨q1, 2, none⟩ (.int .i64 g1)).setCell ⟨q1, 3, none⟩ (.int .i64 oc1)).setCell ⟨q1, 4, none⟩ (.int .i64 ok1)).setCell ⟨q1, 5, none⟩ (.int .i64 oh1)).setCell ⟨q1, 6, none⟩ (.int .i64 ov1)).setCell ⟨q1, 7, none⟩ (.int .i64 ae1)).setCell ⟨q1, 8, none⟩ (.bool ao1)).setCell ⟨q1, 9, none⟩ (.int .i64 ak1)).setCell ⟨q1, 10, none⟩ (.int .i64 av1)).setCell ⟨q1, 11, none⟩ (.int .i64 an1)).setCell ⟨q1, 12, none⟩ (.slice pa1 ap1.length pc1)) = W4 at *
     refine wpAnyH_ready (rs := [28]) (by kernel_rfl) (by simp) ?_
     refine AllReadyH.cons rfl (fun K hK => ?_) AllReadyH.nil
     have y0 := Q2.out.at_ 0 _ rfl
     have y1 := Q2.out.at_ 1 _ rfl
     have y2 := Q2.out.at_ 2 _ rfl
     have y3 := Q2.out.at_ 3 _ rfl
     have y4 := Q2.out.at_ 4 _ rfl
     have y5 := Q2.out.at_ 5 _ rfl
     have y6 := Q2.out.at_ 6 _ rfl
     have y7 := Q2.out.at_ 7 _ rfl
     have y8 := Q2.out.at_ 8 _ rfl
     have y9 := Q2.out.at_ 9 _ rfl
     have y10 := Q2.out.at_ 10 _ rfl
     have y11 := Q2.out.at_ 11 _ rfl
     have y12 := Q2.out.at_ 12 _ rfl
     have z0 := Q2.out.fr 0
     have z1 := Q2.out.fr 1
     have z2 := Q2.out.fr 2
     have z3 := Q2.out.fr 3
     have z4 := Q2.out.fr 4
     have z5 := Q2.out.fr 5
     have z6 := Q2.out.fr 6
     have z7 := Q2.out.fr 7
     have z8 := Q2.out.fr 8
     have z9 := Q2.out.fr 9
     have z10 := Q2.out.fr 10
     have z11 := Q2.out.fr 11
     have z12 := Q2.out.fr 12
     go_simp
     have HX := stC_below (w0 := w4) (g := q2) hG2 [.int .i64 t2, .int .i64 f2, .int .i64 g2, .int .i64 oc2, .int .i64 ok2, .int .i64 oh2, .int .i64 ov2, .int .i64 ae2, .bool ao2, .int .i64 ak2, .int .i64 av2, .int .i64 an2, .slice pa2 ap2.length pc2] 0 W4 HD4.out
     have YX := stC_same [.int .i64 t2, .int .i64 f2, .int .i64 g2, .int .i64 oc2, .int .i64 ok2, .int .i64 oh2, .int .i64 ov2, .int .i64 ae2, .bool ao2, .int .i64 ak2, .int .i64 av2, .int .i64 an2, .slice pa2 ap2.length pc2] 0 W4 _ Q2.out rfl
     have YX1 := stC_other (b := q1) (g := q2) (by omega) [.int .i64 t2, .int .i64 f2, .int .i64 g2, .int .i64 oc2, .int .i64 ok2, .int .i64 oh2, .int .i64 ov2, .int .i64 ae2, .bool ao2, .int .i64 ak2, .int .i64 av2, .int .i64 an2, .slice pa2 ap2.length pc2] 0 W4 Q1.out
     have YX3 := stC_other (b := q3) (g := q2) (by omega) [.int .i64 t2, .int .i64 f2, .int .i64 g2, .int .i64 oc2, .int .i64 ok2, .int .i64 oh2, .int .i64 ov2, .int .i64 ae2, .bool ao2, .int .i64 ak2, .int .i64 av2, .int .i64 an2, .slice pa2 ap2.length pc2] 0 W4 Q3.out
     simp only [stC, Nat.zero_add, Nat.reduceAdd, List.take_zero, List.nil_append] at HX YX YX1 YX3
     refine hK.out _ _ ?_ (fun hNext => ?_)
     ·exact KP.out _ HX
     clear hK K hHeld
     have hHeld := hNext
     clear hNext
     try simp only [ga, gb, gc, Act.put, gs, gd, ge]
     clear y0 z0 y1 z1 y2 z2 y3 z3 y4 z4 y5 z5 y6 z6 y7 z7 y8 z8 y9 z9 y10 z10 y11 z11 y12 z12
     have HD5 := Lib.hid HX
     clear Q2 Q1 Q3
     have Q2 := Lib.hid YX
     have Q1 := Lib.hid YX1
     have Q3 := Lib.hid YX3
     clear HX YX YX1 YX3
     generalize (((((((((((((W4.setCell ⟨q2, 0, none⟩ (.int .i64 t2)).setCell ⟨q2, 1, none⟩ (.int .i64 f2)).setCell ⟨q2, 2, none⟩ (.int .i64 g2)).setCell ⟨q2, 3, none⟩ (.int .i64 oc2)).setCell ⟨q2, 4, none⟩ (.int .i64 ok2)).setCell ⟨q2, 5, none⟩ (.int .i64 oh2)).setCell ⟨q2, 6, none⟩ (.int .i64 ov2)).setCell ⟨q2, 7, none⟩ (.int .i64 ae2)).setCell ⟨q2, 8, none⟩ (.bool ao2)).setCell ⟨q2, 9, none⟩ (.int .i64 ak2)).setCell ⟨q2, 10, none⟩ (.int .i64 av2)).setCell ⟨q2, 11, none⟩ (.int .i64 an2)).setCell ⟨q2, 12, none⟩ (.slice pa2 ap2.length pc2)) = W5 at *
     refine wpAnyH_ready (rs := [29]) (by kernel_rfl) (by simp) ?_
     refine AllReadyH.cons rfl (fun K hK => ?_) AllReadyH.nil
     have y0 := Q3.out.at_ 0 _ rfl
     have y1 := Q3.out.at_ 1 _ rfl
     have y2 := Q3.out.at_ 2 _ rfl
     have y3 := Q3.out.at_ 3 _ rfl
     have y4 := Q3.out.at_ 4 _ rfl
     have y5 := Q3.out.at_ 5 _ rfl
     have y6 := Q3.out.at_ 6 _ rfl
     have y7 := Q3.out.at_ 7 _ rfl
     have y8 := Q3.out.at_ 8 _ rfl
     have y9 := Q3.out.at_ 9 _ rfl
     have y10 := Q3.out.at_ 10 _ rfl
     have y11 := Q3.out.at_ 11 _ rfl
     have y12 := Q3.out.at_ 12 _ rfl
     have z0 := Q3.out.fr 0
     have z1 := Q3.out.fr 1
     have z2 := Q3.out.fr 2
     have z3 := Q3.out.fr 3
     have z4 := Q3.out.fr 4
     have z5 := Q3.out.fr 5
     have z6 := Q3.out.fr 6
     have z7 := Q3.out.fr 7
     have z8 := Q3.out.fr 8
     have z9 := Q3.out.fr 9
     have z10 := Q3.out.fr 10
     have z11 := Q3.out.fr 11
     have z12 := Q3.out.fr 12
     go_simp
     have HX := stC_below (w0 := w4) (g := q3) hG3 [.int .i64 t3, .int .i64 f3, .int .i64 g3, .int .i64 oc3, .int .i64 ok3, .int .i64 oh3, .int .i64 ov3, .int .i64 ae3, .bool ao3, .int .i64 ak3, .int .i64 av3, .int .i64 an3, .slice pa3 ap3.length pc3] 0 W5 HD5.out
     have YX := stC_same [.int .i64 t3, .int .i64 f3, .int .i64 g3, .int .i64 oc3, .int .i64 ok3, .int .i64 oh3, .int .i64 ov3, .int .i64 ae3, .bool ao3, .int .i64 ak3, .int .i64 av3, .int .i64 an3, .slice pa3 ap3.length pc3] 0 W5 _ Q3.out rfl
     have YX1 := stC_other (b := q1) (g := q3) (by omega) [.int .i64 t3, .int .i64 f3, .int .i64 g3, .int .i64 oc3, .int .i64 ok3, .int .i64 oh3, .int .i64 ov3, .int .i64 ae3, .bool ao3, .int .i64 ak3, .int .i64 av3, .int .i64 an3, .slice pa3 ap3.length pc3] 0 W5 Q1.out
     have YX2 := stC_other (b := q2) (g := q3) (by omega) [.int .i64 t3, .int .i64 f3, .int .i64 g3, .int .i64 oc3, .int .i64 ok3, .int .i64 oh3, .int .i64 ov3, .int .i64 ae3, .bool ao3, .int .i64 ak3, .int .i64 av3, .int .i64 an3, .slice pa3 ap3.length pc3] 0 W5 Q2.out
     simp only [stC, Nat.zero_add, Nat.reduceAdd, List.take_zero, List.nil_append] at HX YX YX1 YX2
     refine hK.out _ _ ?_ (fun hNext => ?_)
     ·exact KP.out _ HX
     clear hK K hHeld
     have hHeld := hNext
     clear hNext
     try simp only [ga, gb, gc, Act.put, gs, gd, ge]
     clear y0 z0 y1 z1 y2 z2 y3 z3 y4 z4 y5 z5 y6 z6 y7 z7 y8 z8 y9 z9 y10 z10 y11 z11 y12 z12
     have HD6 := Lib.hid HX
     clear Q3 Q1 Q2
     have Q3 := Lib.hid YX
     have Q1 := Lib.hid YX1
     have Q2 := Lib.hid YX2
     clear HX YX YX1 YX2
     generalize (((((((((((((W5.setCell ⟨q3, 0, none⟩ (.int .i64 t3)).setCell ⟨q3, 1, none⟩ (.int .i64 f3)).setCell ⟨q3, 2, none⟩ (.int .i64 g3)).setCell ⟨q3, 3, none⟩ (.int .i64 oc3)).setCell ⟨q3, 4, none⟩ (.int .i64 ok3)).setCell ⟨q3, 5, none⟩ (.int .i64 oh3)).setCell ⟨q3, 6, none⟩ (.int .i64 ov3)).setCell ⟨q3, 7, none⟩ (.int .i64 ae3)).setCell ⟨q3, 8, none⟩ (.bool ao3)).setCell ⟨q3, 9, none⟩ (.int .i64 ak3)).setCell ⟨q3, 10, none⟩ (.int .i64 av3)).setCell ⟨q3, 11, none⟩ (.int .i64 an3)).setCell ⟨q3, 12, none⟩ (.slice pa3 ap3.length pc3)) = W6 at *
     refine wpAnyH_done (by kernel_rfl) ?_ _
     clear hHeld
     go_wp2_with (fail)
     go_meet
     exact ⟨q1, q2, q3, rfl, rfl, rfl, Q1.out, Q2.out, Q3.out, HD6.out⟩
    ·go_simp
     refine hK.out _ _ ?_ (fun hNext => ?_)
     ·exact KP.out _ (pb2 HD1.out (pal _))
     clear hK K hHeld
     have hHeld := hNext
     clear hNext
     try simp only [ga, gb, gc, Act.put, gs, gd, ge]
     have Q2 := Lib.hid (Bq.new W1 #[.int .i64 0, .int .i64 0, .int .i64 0, .int .i64 0, .int .i64 0, .int .i64 0, .int .i64 0, .int .i64 0, .bool false, .int .i64 0, .int .i64 0, .int .i64 0, .slice none 0 0] 59)
     replace Q3 := Lib.hid (Q3.out.keep (pal (.cells #[.int .i64 0, .int .i64 0, .int .i64 0, .int .i64 0, .int .i64 0, .int .i64 0, .int .i64 0, .int .i64 0, .bool false, .int .i64 0, .int .i64 0, .int .i64 0, .slice none 0 0] 59)))
     have HD2 := Lib.hid (pb2 HD1.out (pal (.cells #[.int .i64 0, .int .i64 0, .int .i64 0, .int .i64 0, .int .i64 0, .int .i64 0, .int .i64 0, .int .i64 0, .bool false, .int .i64 0, .int .i64 0, .int .i64 0, .slice none 0 0] 59)))
     have hG2 := HD1.out.size
     have hN32 : ¬ q3 = W1.heap.size := by omega
     have hS2 : W1.heap.size < (W1.alloc (.cells #[.int .i64 0, .int .i64 0, .int .i64 0, .int .i64 0, .int .i64 0, .int .i64 0, .int .i64 0, .int .i64 0, .bool false, .int .i64 0, .int .i64 0, .int .i64 0, .slice none 0 0] 59)).heap.size := by simp
     have hT32 : q3 < (W1.alloc (.cells #[.int .i64 0, .int .i64 0, .int .i64 0, .int .i64 0, .int .i64 0, .int .i64 0, .int .i64 0, .int .i64 0, .bool false, .int .i64 0, .int .i64 0, .int .i64 0, .slice none 0 0] 59)).heap.size := by omega
     generalize W1.alloc (.cells #[.int .i64 0, .int .i64 0, .int .i64 0, .int .i64 0, .int .i64 0, .int .i64 0, .int .i64 0, .int .i64 0, .bool false, .int .i64 0, .int .i64 0, .int .i64 0, .slice none 0 0] 59) = W2 at *
     generalize W1.heap.size = q2 at *
     refine wpAnyH_ready (rs := [24]) (by kernel_rfl) (by simp) ?_
     refine AllReadyH.cons rfl (fun K hK => ?_) AllReadyH.nil
     go_simp
     refine hK.out _ _ ?_ (fun hNext => ?_)
     ·exact KP.out _ (pb2 HD2.out (pal _))
     clear hK K hHeld
     have hHeld := hNext
     clear hNext
     try simp only [ga, gb, gc, Act.put, gs, gd, ge]
     have Q1 := Lib.hid (Bq.new W2 #[.int .i64 0, .int .i64 0, .int .i64 0, .int .i64 0, .int .i64 0, .int .i64 0, .int .i64 0, .int .i64 0, .bool false, .int .i64 0, .int .i64 0, .int .i64 0, .slice none 0 0] 59)
     replace Q3 := Lib.hid (Q3.out.keep (pal (.cells #[.int .i64 0, .int .i64 0, .int .i64 0, .int .i64 0, .int .i64 0, .int .i64 0, .int .i64 0, .int .i64 0, .bool false, .int .i64 0, .int .i64 0, .int .i64 0, .slice none 0 0] 59)))
     replace Q2 := Lib.hid (Q2.out.keep (pal (.cells #[.int .i64 0, .int .i64 0, .int .i64 0, .int .i64 0, .int .i64 0, .int .i64 0, .int .i64 0, .int .i64 0, .bool false, .int .i64 0, .int .i64 0, .int .i64 0, .slice none 0 0] 59)))
     have HD3 := Lib.hid (pb2 HD2.out (pal (.cells #[.int .i64 0, .int .i64 0, .int .i64 0, .int .i64 0, .int .i64 0, .int .i64 0, .int .i64 0, .int .i64 0, .bool false, .int .i64 0, .int .i64 0, .int .i64 0, .slice none 0 0] 59)))
     have hG1 := HD2.out.size
     have hN31 : ¬ q3 = W2.heap.size := by omega
     have hN21 : ¬ q2 = W2.heap.size := by omega
     have hS1 : W2.heap.size < (W2.alloc (.cells #[.int .i64 0, .int .i64 0, .int .i64 0, .int .i64 0, .int .i64 0, .int .i64 0, .int .i64 0, .int .i64 0, .bool false, .int .i64 0, .int .i64 0, .int .i64 0, .slice none 0 0] 59)).heap.size := by simp
     have hT31 : q3 < (W2.alloc (.cells #[.int .i64 0, .int .i64 0, .int .i64 0, .int .i64 0, .int .i64 0, .int .i64 0, .int .i64 0, .int .i64 0, .bool false, .int .i64 0, .int .i64 0, .int .i64 0, .slice none 0 0] 59)).heap.size := by omega
     have hT21 : q2 < (W2.alloc (.cells #[.int .i64 0, .int .i64 0, .int .i64 0, .int .i64 0, .int .i64 0, .int .i64 0, .int .i64 0, .int .i64 0, .bool false, .int .i64 0, .int .i64 0, .int .i64 0, .slice none 0 0] 59)).heap.size := by omega
     generalize W2.alloc (.cells #[.int .i64 0, .int .i64 0, .int .i64 0, .int .i64 0, .int .i64 0, .int .i64 0, .int .i64 0, .int .i64 0, .bool false, .int .i64 0, .int .i64 0, .int .i64 0, .slice none 0 0] 59) = W3 at *
     generalize W2.heap.size = q1 at *
     refine wpAnyH_ready (rs := [27]) (by kernel_rfl) (by simp) ?_
     refine AllReadyH.cons rfl (fun K hK => ?_) AllReadyH.nil
     have y0 := Q1.out.at_ 0 _ rfl
     have y1 := Q1.out.at_ 1 _ rfl
     have y2 := Q1.out.at_ 2 _ rfl
     have y3 := Q1.out.at_ 3 _ rfl
     have y4 := Q1.out.at_ 4 _ rfl
     have y5 := Q1.out.at_ 5 _ rfl
     have y6 := Q1.out.at_ 6 _ rfl
     have y7 := Q1.out.at_ 7 _ rfl
     have y8 := Q1.out.at_ 8 _ rfl
     have y9 := Q1.out.at_ 9 _ rfl
     have y10 := Q1.out.at_ 10 _ rfl
     have y11 := Q1.out.at_ 11 _ rfl
     have y12 := Q1.out.at_ 12 _ rfl
     have z0 := Q1.out.fr 0
     have z1 := Q1.out.fr 1
     have z2 := Q1.out.fr 2
     have z3 := Q1.out.fr 3
     have z4 := Q1.out.fr 4
     have z5 := Q1.out.fr 5
     have z6 := Q1.out.fr 6
     have z7 := Q1.out.fr 7
     have z8 := Q1.out.fr 8
     have z9 := Q1.out.fr 9
     have z10 := Q1.out.fr 10
     have z11 := Q1.out.fr 11
     have z12 := Q1.out.fr 12
     go_simp
     have HX := stC_below (w0 := w4) (g := q1) hG1 [.int .i64 t1, .int .i64 f1, .int .i64 g1, .int .i64 oc1, .int .i64 ok1, .int .i64 oh1, .int .i64 ov1, .int .i64 ae1, .bool ao1, .int .i64 ak1, .int .i64 av1, .int .i64 an1, .slice pa1 ap1.length pc1] 0 W3 HD3.out
     have YX := stC_same [.int .i64 t1, .int .i64 f1, .int .i64 g1, .int .i64 oc1, .int .i64 ok1, .int .i64 oh1, .int .i64 ov1, .int .i64 ae1, .bool ao1, .int .i64 ak1, .int .i64 av1, .int .i64 an1, .slice pa1 ap1.length pc1] 0 W3 _ Q1.out rfl
     have YX2 := stC_other (b := q2) (g := q1) (by omega) [.int .i64 t1, .int .i64 f1, .int .i64 g1, .int .i64 oc1, .int .i64 ok1, .int .i64 oh1, .int .i64 ov1, .int .i64 ae1, .bool ao1, .int .i64 ak1, .int .i64 av1, .int .i64 an1, .slice pa1 ap1.length pc1] 0 W3 Q2.out
     have YX3 := stC_other (b := q3) (g := q1) (by omega) [.int .i64 t1, .int .i64 f1, .int .i64 g1, .int .i64 oc1, .int .i64 ok1, .int .i64 oh1, .int .i64 ov1, .int .i64 ae1, .bool ao1, .int .i64 ak1, .int .i64 av1, .int .i64 an1, .slice pa1 ap1.length pc1] 0 W3 Q3.out
     simp only [stC, Nat.zero_add, Nat.reduceAdd, List.take_zero, List.nil_append] at HX YX YX2 YX3
     refine hK.out _ _ ?_ (fun hNext => ?_)
     ·exact KP.out _ HX
     clear hK K hHeld
     have hHeld := hNext
     clear hNext
     try simp only [ga, gb, gc, Act.put, gs, gd, ge]
     clear y0 z0 y1 z1 y2 z2 y3 z3 y4 z4 y5 z5 y6 z6 y7 z7 y8 z8 y9 z9 y10 z10 y11 z11 y12 z12
     have HD4 := Lib.hid HX
     clear Q1 Q2 Q3
     have Q1 := Lib.hid YX
     have Q2 := Lib.hid YX2
     have Q3 := Lib.hid YX3
     clear HX YX YX2 YX3
     generalize (((((((((((((W3.setCell ⟨q1, 0, none⟩ (.int .i64 t1)).setCell ⟨q1, 1, none⟩ (.int .i64 f1)).setCell ⟨q1, 2, none⟩ (.int .i64 g1)).setCell ⟨q1, 3, none⟩ (.int .i64 oc1)).setCell ⟨q1, 4, none⟩ (.int .i64 ok1)).setCell ⟨q1, 5, none⟩ (.int .i64 oh1)).setCell ⟨q1, 6, none⟩ (.int .i64 ov1)).setCell ⟨q1, 7, none⟩ (.int .i64 ae1)).setCell ⟨q1, 8, none⟩ (.bool ao1)).setCell ⟨q1, 9, none⟩ (.int .i64 ak1)).setCell ⟨q1, 10, none⟩ (.int .i64 av1)).setCell ⟨q1, 11, none⟩ (.int .i64 an1)).setCell ⟨q1, 12, none⟩ (.slice pa1 ap1.length pc1)) = W4 at *
     refine wpAnyH_ready (rs := [28]) (by kernel_rfl) (by simp) ?_
     refine AllReadyH.cons rfl (fun K hK => ?_) AllReadyH.nil
     have y0 := Q2.out.at_ 0 _ rfl
     have y1 := Q2.out.at_ 1 _ rfl
     have y2 := Q2.out.at_ 2 _ rfl
     have y3 := Q2.out.at_ 3 _ rfl
     have y4 := Q2.out.at_ 4 _ rfl
     have y5 := Q2.out.at_ 5 _ rfl
     have y6 := Q2.out.at_ 6 _ rfl
     have y7 := Q2.out.at_ 7 _ rfl
     have y8 := Q2.out.at_ 8 _ rfl
     have y9 := Q2.out.at_ 9 _ rfl
     have y10 := Q2.out.at_ 10 _ rfl
     have y11 := Q2.out.at_ 11 _ rfl
     have y12 := Q2.out.at_ 12 _ rfl
     have z0 := Q2.out.fr 0
     have z1 := Q2.out.fr 1
     have z2 := Q2.out.fr 2
     have z3 := Q2.out.fr 3
     have z4 := Q2.out.fr 4
     have z5 := Q2.out.fr 5
     have z6 := Q2.out.fr 6
     have z7 := Q2.out.fr 7
     have z8 := Q2.out.fr 8
     have z9 := Q2.out.fr 9
     have z10 := Q2.out.fr 10
     have z11 := Q2.out.fr 11
     have z12 := Q2.out.fr 12
     go_simp
     have HX := stC_below (w0 := w4) (g := q2) hG2 [.int .i64 t2, .int .i64 f2, .int .i64 g2, .int .i64 oc2, .int .i64 ok2, .int .i64 oh2, .int .i64 ov2, .int .i64 ae2, .bool ao2, .int .i64 ak2, .int .i64 av2, .int .i64 an2, .slice pa2 ap2.length pc2] 0 W4 HD4.out
     have YX := stC_same [.int .i64 t2, .int .i64 f2, .int .i64 g2, .int .i64 oc2, .int .i64 ok2, .int .i64 oh2, .int .i64 ov2, .int .i64 ae2, .bool ao2, .int .i64 ak2, .int .i64 av2, .int .i64 an2, .slice pa2 ap2.length pc2] 0 W4 _ Q2.out rfl
     have YX1 := stC_other (b := q1) (g := q2) (by omega) [.int .i64 t2, .int .i64 f2, .int .i64 g2, .int .i64 oc2, .int .i64 ok2, .int .i64 oh2, .int .i64 ov2, .int .i64 ae2, .bool ao2, .int .i64 ak2, .int .i64 av2, .int .i64 an2, .slice pa2 ap2.length pc2] 0 W4 Q1.out
     have YX3 := stC_other (b := q3) (g := q2) (by omega) [.int .i64 t2, .int .i64 f2, .int .i64 g2, .int .i64 oc2, .int .i64 ok2, .int .i64 oh2, .int .i64 ov2, .int .i64 ae2, .bool ao2, .int .i64 ak2, .int .i64 av2, .int .i64 an2, .slice pa2 ap2.length pc2] 0 W4 Q3.out
     simp only [stC, Nat.zero_add, Nat.reduceAdd, List.take_zero, List.nil_append] at HX YX YX1 YX3
     refine hK.out _ _ ?_ (fun hNext => ?_)
     ·exact KP.out _ HX
     clear hK K hHeld
     have hHeld := hNext
     clear hNext
     try simp only [ga, gb, gc, Act.put, gs, gd, ge]
     clear y0 z0 y1 z1 y2 z2 y3 z3 y4 z4 y5 z5 y6 z6 y7 z7 y8 z8 y9 z9 y10 z10 y11 z11 y12 z12
     have HD5 := Lib.hid HX
     clear Q2 Q1 Q3
     have Q2 := Lib.hid YX
     have Q1 := Lib.hid YX1
     have Q3 := Lib.hid YX3
     clear HX YX YX1 YX3
     generalize (((((((((((((W4.setCell ⟨q2, 0, none⟩ (.int .i64 t2)).setCell ⟨q2, 1, none⟩ (.int .i64 f2)).setCell ⟨q2, 2, none⟩ (.int .i64 g2)).setCell ⟨q2, 3, none⟩ (.int .i64 oc2)).setCell ⟨q2, 4, none⟩ (.int .i64 ok2)).setCell ⟨q2, 5, none⟩ (.int .i64 oh2)).setCell ⟨q2, 6, none⟩ (.int .i64 ov2)).setCell ⟨q2, 7, none⟩ (.int .i64 ae2)).setCell ⟨q2, 8, none⟩ (.bool ao2)).setCell ⟨q2, 9, none⟩ (.int .i64 ak2)).setCell ⟨q2, 10, none⟩ (.int .i64 av2)).setCell ⟨q2, 11, none⟩ (.int .i64 an2)).setCell ⟨q2, 12, none⟩ (.slice pa2 ap2.length pc2)) = W5 at *
     refine wpAnyH_ready (rs := [29]) (by kernel_rfl) (by simp) ?_
     refine AllReadyH.cons rfl (fun K hK => ?_) AllReadyH.nil
     have y0 := Q3.out.at_ 0 _ rfl
     have y1 := Q3.out.at_ 1 _ rfl
     have y2 := Q3.out.at_ 2 _ rfl
     have y3 := Q3.out.at_ 3 _ rfl
     have y4 := Q3.out.at_ 4 _ rfl
     have y5 := Q3.out.at_ 5 _ rfl
     have y6 := Q3.out.at_ 6 _ rfl
     have y7 := Q3.out.at_ 7 _ rfl
     have y8 := Q3.out.at_ 8 _ rfl
     have y9 := Q3.out.at_ 9 _ rfl
     have y10 := Q3.out.at_ 10 _ rfl
     have y11 := Q3.out.at_ 11 _ rfl
     have y12 := Q3.out.at_ 12 _ rfl
     have z0 := Q3.out.fr 0
     have z1 := Q3.out.fr 1
     have z2 := Q3.out.fr 2
     have z3 := Q3.out.fr 3
     have z4 := Q3.out.fr 4
     have z5 := Q3.out.fr 5
     have z6 := Q3.out.fr 6
     have z7 := Q3.out.fr 7
     have z8 := Q3.out.fr 8
     have z9 := Q3.out.fr 9
     have z10 := Q3.out.fr 10
     have z11 := Q3.out.fr 11
     have z12 := Q3.out.fr 12
     go_simp
     have HX := stC_below (w0 := w4) (g := q3) hG3 [.int .i64 t3, .int .i64 f3, .int .i64 g3, .int .i64 oc3, .int .i64 ok3, .int .i64 oh3, .int .i64 ov3, .int .i64 ae3, .bool ao3, .int .i64 ak3, .int .i64 av3, .int .i64 an3, .slice pa3 ap3.length pc3] 0 W5 HD5.out
     have YX := stC_same [.int .i64 t3, .int .i64 f3, .int .i64 g3, .int .i64 oc3, .int .i64 ok3, .int .i64 oh3, .int .i64 ov3, .int .i64 ae3, .bool ao3, .int .i64 ak3, .int .i64 av3, .int .i64 an3, .slice pa3 ap3.length pc3] 0 W5 _ Q3.out rfl
     have YX1 := stC_other (b := q1) (g := q3) (by omega) [.int .i64 t3, .int .i64 f3, .int .i64 g3, .int .i64 oc3, .int .i64 ok3, .int .i64 oh3, .int .i64 ov3, .int .i64 ae3, .bool ao3, .int .i64 ak3, .int .i64 av3, .int .i64 an3, .slice pa3 ap3.length pc3] 0 W5 Q1.out
     have YX2 := stC_other (b := q2) (g := q3) (by omega) [.int .i64 t3, .int .i64 f3, .int .i64 g3, .int .i64 oc3, .int .i64 ok3, .int .i64 oh3, .int .i64 ov3, .int .i64 ae3, .bool ao3, .int .i64 ak3, .int .i64 av3, .int .i64 an3, .slice pa3 ap3.length pc3] 0 W5 Q2.out
     simp only [stC, Nat.zero_add, Nat.reduceAdd, List.take_zero, List.nil_append] at HX YX YX1 YX2
     refine hK.out _ _ ?_ (fun hNext => ?_)
     ·exact KP.out _ HX
     clear hK K hHeld
     have hHeld := hNext
     clear hNext
     try simp only [ga, gb, gc, Act.put, gs, gd, ge]
     clear y0 z0 y1 z1 y2 z2 y3 z3 y4 z4 y5 z5 y6 z6 y7 z7 y8 z8 y9 z9 y10 z10 y11 z11 y12 z12
     have HD6 := Lib.hid HX
     clear Q3 Q1 Q2
     have Q3 := Lib.hid YX
     have Q1 := Lib.hid YX1
     have Q2 := Lib.hid YX2
     clear HX YX YX1 YX2
     generalize (((((((((((((W5.setCell ⟨q3, 0, none⟩ (.int .i64 t3)).setCell ⟨q3, 1, none⟩ (.int .i64 f3)).setCell ⟨q3, 2, none⟩ (.int .i64 g3)).setCell ⟨q3, 3, none⟩ (.int .i64 oc3)).setCell ⟨q3, 4, none⟩ (.int .i64 ok3)).setCell ⟨q3, 5, none⟩ (.int .i64 oh3)).setCell ⟨q3, 6, none⟩ (.int .i64 ov3)).setCell ⟨q3, 7, none⟩ (.int .i64 ae3)).setCell ⟨q3, 8, none⟩ (.bool ao3)).setCell ⟨q3, 9, none⟩ (.int .i64 ak3)).setCell ⟨q3, 10, none⟩ (.int .i64 av3)).setCell ⟨q3, 11, none⟩ (.int .i64 an3)).setCell ⟨q3, 12, none⟩ (.slice pa3 ap3.length pc3)) = W6 at *
     refine wpAnyH_done (by kernel_rfl) ?_ _
     clear hHeld
     go_wp2_with (fail)
     go_meet
     exact ⟨q1, q2, q3, rfl, rfl, rfl, Q1.out, Q2.out, Q3.out, HD6.out⟩
 case rest =>
  obtain ⟨q1, q2, q3, rfl, rfl, rfl, hQ1, hQ2, hQ3, hBw⟩ := hcut
  have HI2 := Lib.hid (show MInv z0 z0.length s1 from HI.out)
  have hxA : s1.l[x]? = some ⟨t1, f1, g1, ⟨oc1, ok1, oh1, ov1⟩, ⟨ae1, ao1, ak1, av1, an1, ap1⟩⟩ := by rw [HLL.out]; exact HA.out
  have hxB : s1.l[y]? = some ⟨t2, f2, g2, ⟨oc2, ok2, oh2, ov2⟩, ⟨ae2, ao2, ak2, av2, an2, ap2⟩⟩ := by rw [HLL.out]; exact HBq.out
  have hxD : s1.l[z]? = some ⟨t3, f3, g3, ⟨oc3, ok3, oh3, ov3⟩, ⟨ae3, ao3, ak3, av3, an3, ap3⟩⟩ := by rw [HLL.out]; exact HD.out
  have naa := HI.out.irr hxA
  have nab := HI.out.asym hxA hxB
  have tab := fun h1 h2 => HI.out.trans (a := ⟨t1, f1, g1, ⟨oc1, ok1, oh1, ov1⟩, ⟨ae1, ao1, ak1, av1, an1, ap1⟩⟩) (c := ⟨t3, f3, g3, ⟨oc3, ok3, oh3, ov3⟩, ⟨ae3, ao3, ak3, av3, an3, ap3⟩⟩) hxB h1 h2
  have sab := fun h1 h2 => HI.out.same hxA hxB h1 h2
  clear hxA hxB hxD
  obtain ⟨Bab, hBab⟩ : ∃ B, decide (bef ⟨t1, f1, g1, ⟨oc1, ok1, oh1, ov1⟩, ⟨ae1, ao1, ak1, av1, an1, ap1⟩⟩ ⟨t2, f2, g2, ⟨oc2, ok2, oh2, ov2⟩, ⟨ae2, ao2, ak2, av2, an2, ap2⟩⟩) = B := ⟨_, rfl⟩
  obtain ⟨Bba, hBba⟩ : ∃ B, decide (bef ⟨t2, f2, g2, ⟨oc2, ok2, oh2, ov2⟩, ⟨ae2, ao2, ak2, av2, an2, ap2⟩⟩ ⟨t1, f1, g1, ⟨oc1, ok1, oh1, ov1⟩, ⟨ae1, ao1, ak1, av1, an1, ap1⟩⟩) = B := ⟨_, rfl⟩
  obtain ⟨Bbc, hBbc⟩ : ∃ B, decide (bef ⟨t2, f2, g2, ⟨oc2, ok2, oh2, ov2⟩, ⟨ae2, ao2, ak2, av2, an2, ap2⟩⟩ ⟨t3, f3, g3, ⟨oc3, ok3, oh3, ov3⟩, ⟨ae3, ao3, ak3, av3, an3, ap3⟩⟩) = B := ⟨_, rfl⟩
  have caa := fun W => bef_any ⟨t1, f1, g1, ⟨oc1, ok1, oh1, ov1⟩, ⟨ae1, ao1, ak1, av1, an1, ap1⟩⟩ ⟨t1, f1, g1, ⟨oc1, ok1, oh1, ov1⟩, ⟨ae1, ao1, ak1, av1, an1, ap1⟩⟩ pa1 pa1 pc1 pc1 W false (decide_eq_false naa)
  have cab := fun W => bef_any ⟨t1, f1, g1, ⟨oc1, ok1, oh1, ov1⟩, ⟨ae1, ao1, ak1, av1, an1, ap1⟩⟩ ⟨t2, f2, g2, ⟨oc2, ok2, oh2, ov2⟩, ⟨ae2, ao2, ak2, av2, an2, ap2⟩⟩ pa1 pa2 pc1 pc2 W Bab hBab
  have cba := fun W => bef_any ⟨t2, f2, g2, ⟨oc2, ok2, oh2, ov2⟩, ⟨ae2, ao2, ak2, av2, an2, ap2⟩⟩ ⟨t1, f1, g1, ⟨oc1, ok1, oh1, ov1⟩, ⟨ae1, ao1, ak1, av1, an1, ap1⟩⟩ pa2 pa1 pc2 pc1 W Bba hBba
  have cbd := fun W => bef_any ⟨t2, f2, g2, ⟨oc2, ok2, oh2, ov2⟩, ⟨ae2, ao2, ak2, av2, an2, ap2⟩⟩ ⟨t3, f3, g3, ⟨oc3, ok3, oh3, ov3⟩, ⟨ae3, ao3, ak3, av3, an3, ap3⟩⟩ pa2 pa3 pc2 pc3 W Bbc hBbc
  have h12 : Bab = true → Bba = false := fun h => by rw [← hBba]; exact decide_eq_false (fun h2 => nab ⟨of_decide_eq_true (hBab.trans h), h2⟩)
  have cad := fun W (h1 : Bab = true) (h2 : Bbc = true) => bef_any ⟨t1, f1, g1, ⟨oc1, ok1, oh1, ov1⟩, ⟨ae1, ao1, ak1, av1, an1, ap1⟩⟩ ⟨t3, f3, g3, ⟨oc3, ok3, oh3, ov3⟩, ⟨ae3, ao3, ak3, av3, an3, ap3⟩⟩ pa1 pa3 pc1 pc3 W true (decide_eq_true (tab (of_decide_eq_true (hBab.trans h1)) (of_decide_eq_true (hBbc.trans h2))))
  have h13 : ∀ (_ : f1 ≠ f2) (_ : t1 = t2), Bba = !Bab := fun h1 h2 => by
   rcases sab h1 h2 with ⟨u, v⟩ | ⟨u, v⟩
   ·rw [← hBba, ← hBab, decide_eq_true u, decide_eq_false v]; rfl
   ·rw [← hBba, ← hBab, decide_eq_false u, decide_eq_true v]; rfl
  unfold clV at caa cab cba cbd cad
  dsimp only at caa cab cba cbd cad
  have H12 := Lib.hid h12
  have H13 := Lib.hid h13
  have R1 := Lib.hid hQ1
  have R2 := Lib.hid hQ2
  have R3 := Lib.hid hQ3
  have HZ := Lib.hid hBw
  clear naa nab tab sab h12 h13 hBab hBba hBbc hQ1 hQ2 hQ3 hBw c0 c1 c2 c3 c4 c5 c6 c7 c8 c9 c10 c11 c12 d0 d1 d2 d3 d4 d5 d6 d7 d8 d9 d10 d11 d12 e0 e1 e2 e3 e4 e5 e6 e7 e8 e9 e10 e11 e12 HUX HWL hux huy huz hux' huy' huz' hx hy hzz hx0 hy0 hz0 HI2 hdz hln
  go_upto_region 8 with fail
  go_cut [94] from 66 to 94 (fun v wx => v = .bool false ∧ Bq wx q1 [.int .i64 t1, .int .i64 f1, .int .i64 g1, .int .i64 oc1, .int .i64 ok1, .int .i64 oh1, .int .i64 ov1, .int .i64 ae1, .bool ao1, .int .i64 ak1, .int .i64 av1, .int .i64 an1, .slice pa1 ap1.length pc1] ∧ Bq wx q2 [.int .i64 t2, .int .i64 f2, .int .i64 g2, .int .i64 oc2, .int .i64 ok2, .int .i64 oh2, .int .i64 ov2, .int .i64 ae2, .bool ao2, .int .i64 ak2, .int .i64 av2, .int .i64 an2, .slice pa2 ap2.length pc2] ∧ Bq wx q3 [.int .i64 t3, .int .i64 f3, .int .i64 g3, .int .i64 oc3, .int .i64 ok3, .int .i64 oh3, .int .i64 ov3, .int .i64 ae3, .bool ao3, .int .i64 ak3, .int .i64 av3, .int .i64 an3, .slice pa3 ap3.length pc3] ∧ Below w4.heap.size w4 wx)
  case first =>
   as_aux_lemma =>
    have k1_0 := R1.out.at_ 0 _ rfl
    have k1_1 := R1.out.at_ 1 _ rfl
    have k1_2 := R1.out.at_ 2 _ rfl
    have k1_3 := R1.out.at_ 3 _ rfl
    have k1_4 := R1.out.at_ 4 _ rfl
    have k1_5 := R1.out.at_ 5 _ rfl
    have k1_6 := R1.out.at_ 6 _ rfl
    have k1_7 := R1.out.at_ 7 _ rfl
    have k1_8 := R1.out.at_ 8 _ rfl
    have k1_9 := R1.out.at_ 9 _ rfl
    have k1_10 := R1.out.at_ 10 _ rfl
    have k1_11 := R1.out.at_ 11 _ rfl
    have k1_12 := R1.out.at_ 12 _ rfl
    have k2_0 := R2.out.at_ 0 _ rfl
    have k2_1 := R2.out.at_ 1 _ rfl
    have k2_2 := R2.out.at_ 2 _ rfl
    have k2_3 := R2.out.at_ 3 _ rfl
    have k2_4 := R2.out.at_ 4 _ rfl
    have k2_5 := R2.out.at_ 5 _ rfl
    have k2_6 := R2.out.at_ 6 _ rfl
    have k2_7 := R2.out.at_ 7 _ rfl
    have k2_8 := R2.out.at_ 8 _ rfl
    have k2_9 := R2.out.at_ 9 _ rfl
    have k2_10 := R2.out.at_ 10 _ rfl
    have k2_11 := R2.out.at_ 11 _ rfl
    have k2_12 := R2.out.at_ 12 _ rfl
    have k3_0 := R3.out.at_ 0 _ rfl
    have k3_1 := R3.out.at_ 1 _ rfl
    have k3_2 := R3.out.at_ 2 _ rfl
    have k3_3 := R3.out.at_ 3 _ rfl
    have k3_4 := R3.out.at_ 4 _ rfl
    have k3_5 := R3.out.at_ 5 _ rfl
    have k3_6 := R3.out.at_ 6 _ rfl
    have k3_7 := R3.out.at_ 7 _ rfl
    have k3_8 := R3.out.at_ 8 _ rfl
    have k3_9 := R3.out.at_ 9 _ rfl
    have k3_10 := R3.out.at_ 10 _ rfl
    have k3_11 := R3.out.at_ 11 _ rfl
    have k3_12 := R3.out.at_ 12 _ rfl
    cases Bab
    ·go_wp2_with (first
      | (go_at_call 25; ((with_reducible refine (caa _).mono ?_); rintro e Y ⟨rfl, hbY⟩; replace R1 := Lib.hid (R1.out.keep hbY); replace R2 := Lib.hid (R2.out.keep hbY); replace R3 := Lib.hid (R3.out.keep hbY); replace HZ := Lib.hid (pb2 HZ.out hbY); clear hbY k1_0 k1_1 k1_2 k1_3 k1_4 k1_5 k1_6 k1_7 k1_8 k1_9 k1_10 k1_11 k1_12 k2_0 k2_1 k2_2 k2_3 k2_4 k2_5 k2_6 k2_7 k2_8 k2_9 k2_10 k2_11 k2_12 k3_0 k3_1 k3_2 k3_3 k3_4 k3_5 k3_6 k3_7 k3_8 k3_9 k3_10 k3_11 k3_12; have k1_0 := R1.out.at_ 0 _ rfl; have k1_1 := R1.out.at_ 1 _ rfl; have k1_2 := R1.out.at_ 2 _ rfl; have k1_3 := R1.out.at_ 3 _ rfl; have k1_4 := R1.out.at_ 4 _ rfl; have k1_5 := R1.out.at_ 5 _ rfl; have k1_6 := R1.out.at_ 6 _ rfl; have k1_7 := R1.out.at_ 7 _ rfl; have k1_8 := R1.out.at_ 8 _ rfl; have k1_9 := R1.out.at_ 9 _ rfl; have k1_10 := R1.out.at_ 10 _ rfl; have k1_11 := R1.out.at_ 11 _ rfl; have k1_12 := R1.out.at_ 12 _ rfl; have k2_0 := R2.out.at_ 0 _ rfl; have k2_1 := R2.out.at_ 1 _ rfl; have k2_2 := R2.out.at_ 2 _ rfl; have k2_3 := R2.out.at_ 3 _ rfl; have k2_4 := R2.out.at_ 4 _ rfl; have k2_5 := R2.out.at_ 5 _ rfl; have k2_6 := R2.out.at_ 6 _ rfl; have k2_7 := R2.out.at_ 7 _ rfl; have k2_8 := R2.out.at_ 8 _ rfl; have k2_9 := R2.out.at_ 9 _ rfl; have k2_10 := R2.out.at_ 10 _ rfl; have k2_11 := R2.out.at_ 11 _ rfl; have k2_12 := R2.out.at_ 12 _ rfl; have k3_0 := R3.out.at_ 0 _ rfl; have k3_1 := R3.out.at_ 1 _ rfl; have k3_2 := R3.out.at_ 2 _ rfl; have k3_3 := R3.out.at_ 3 _ rfl; have k3_4 := R3.out.at_ 4 _ rfl; have k3_5 := R3.out.at_ 5 _ rfl; have k3_6 := R3.out.at_ 6 _ rfl; have k3_7 := R3.out.at_ 7 _ rfl; have k3_8 := R3.out.at_ 8 _ rfl; have k3_9 := R3.out.at_ 9 _ rfl; have k3_10 := R3.out.at_ 10 _ rfl; have k3_11 := R3.out.at_ 11 _ rfl; have k3_12 := R3.out.at_ 12 _ rfl))
      | (go_at_call 25; ((with_reducible refine (cab _).mono ?_); rintro e Y ⟨rfl, hbY⟩; replace R1 := Lib.hid (R1.out.keep hbY); replace R2 := Lib.hid (R2.out.keep hbY); replace R3 := Lib.hid (R3.out.keep hbY); replace HZ := Lib.hid (pb2 HZ.out hbY); clear hbY k1_0 k1_1 k1_2 k1_3 k1_4 k1_5 k1_6 k1_7 k1_8 k1_9 k1_10 k1_11 k1_12 k2_0 k2_1 k2_2 k2_3 k2_4 k2_5 k2_6 k2_7 k2_8 k2_9 k2_10 k2_11 k2_12 k3_0 k3_1 k3_2 k3_3 k3_4 k3_5 k3_6 k3_7 k3_8 k3_9 k3_10 k3_11 k3_12; have k1_0 := R1.out.at_ 0 _ rfl; have k1_1 := R1.out.at_ 1 _ rfl; have k1_2 := R1.out.at_ 2 _ rfl; have k1_3 := R1.out.at_ 3 _ rfl; have k1_4 := R1.out.at_ 4 _ rfl; have k1_5 := R1.out.at_ 5 _ rfl; have k1_6 := R1.out.at_ 6 _ rfl; have k1_7 := R1.out.at_ 7 _ rfl; have k1_8 := R1.out.at_ 8 _ rfl; have k1_9 := R1.out.at_ 9 _ rfl; have k1_10 := R1.out.at_ 10 _ rfl; have k1_11 := R1.out.at_ 11 _ rfl; have k1_12 := R1.out.at_ 12 _ rfl; have k2_0 := R2.out.at_ 0 _ rfl; have k2_1 := R2.out.at_ 1 _ rfl; have k2_2 := R2.out.at_ 2 _ rfl; have k2_3 := R2.out.at_ 3 _ rfl; have k2_4 := R2.out.at_ 4 _ rfl; have k2_5 := R2.out.at_ 5 _ rfl; have k2_6 := R2.out.at_ 6 _ rfl; have k2_7 := R2.out.at_ 7 _ rfl; have k2_8 := R2.out.at_ 8 _ rfl; have k2_9 := R2.out.at_ 9 _ rfl; have k2_10 := R2.out.at_ 10 _ rfl; have k2_11 := R2.out.at_ 11 _ rfl; have k2_12 := R2.out.at_ 12 _ rfl; have k3_0 := R3.out.at_ 0 _ rfl; have k3_1 := R3.out.at_ 1 _ rfl; have k3_2 := R3.out.at_ 2 _ rfl; have k3_3 := R3.out.at_ 3 _ rfl; have k3_4 := R3.out.at_ 4 _ rfl; have k3_5 := R3.out.at_ 5 _ rfl; have k3_6 := R3.out.at_ 6 _ rfl; have k3_7 := R3.out.at_ 7 _ rfl; have k3_8 := R3.out.at_ 8 _ rfl; have k3_9 := R3.out.at_ 9 _ rfl; have k3_10 := R3.out.at_ 10 _ rfl; have k3_11 := R3.out.at_ 11 _ rfl; have k3_12 := R3.out.at_ 12 _ rfl))
      | (go_at_call 25; ((with_reducible refine (cba _).mono ?_); rintro e Y ⟨rfl, hbY⟩; replace R1 := Lib.hid (R1.out.keep hbY); replace R2 := Lib.hid (R2.out.keep hbY); replace R3 := Lib.hid (R3.out.keep hbY); replace HZ := Lib.hid (pb2 HZ.out hbY); clear hbY k1_0 k1_1 k1_2 k1_3 k1_4 k1_5 k1_6 k1_7 k1_8 k1_9 k1_10 k1_11 k1_12 k2_0 k2_1 k2_2 k2_3 k2_4 k2_5 k2_6 k2_7 k2_8 k2_9 k2_10 k2_11 k2_12 k3_0 k3_1 k3_2 k3_3 k3_4 k3_5 k3_6 k3_7 k3_8 k3_9 k3_10 k3_11 k3_12; have k1_0 := R1.out.at_ 0 _ rfl; have k1_1 := R1.out.at_ 1 _ rfl; have k1_2 := R1.out.at_ 2 _ rfl; have k1_3 := R1.out.at_ 3 _ rfl; have k1_4 := R1.out.at_ 4 _ rfl; have k1_5 := R1.out.at_ 5 _ rfl; have k1_6 := R1.out.at_ 6 _ rfl; have k1_7 := R1.out.at_ 7 _ rfl; have k1_8 := R1.out.at_ 8 _ rfl; have k1_9 := R1.out.at_ 9 _ rfl; have k1_10 := R1.out.at_ 10 _ rfl; have k1_11 := R1.out.at_ 11 _ rfl; have k1_12 := R1.out.at_ 12 _ rfl; have k2_0 := R2.out.at_ 0 _ rfl; have k2_1 := R2.out.at_ 1 _ rfl; have k2_2 := R2.out.at_ 2 _ rfl; have k2_3 := R2.out.at_ 3 _ rfl; have k2_4 := R2.out.at_ 4 _ rfl; have k2_5 := R2.out.at_ 5 _ rfl; have k2_6 := R2.out.at_ 6 _ rfl; have k2_7 := R2.out.at_ 7 _ rfl; have k2_8 := R2.out.at_ 8 _ rfl; have k2_9 := R2.out.at_ 9 _ rfl; have k2_10 := R2.out.at_ 10 _ rfl; have k2_11 := R2.out.at_ 11 _ rfl; have k2_12 := R2.out.at_ 12 _ rfl; have k3_0 := R3.out.at_ 0 _ rfl; have k3_1 := R3.out.at_ 1 _ rfl; have k3_2 := R3.out.at_ 2 _ rfl; have k3_3 := R3.out.at_ 3 _ rfl; have k3_4 := R3.out.at_ 4 _ rfl; have k3_5 := R3.out.at_ 5 _ rfl; have k3_6 := R3.out.at_ 6 _ rfl; have k3_7 := R3.out.at_ 7 _ rfl; have k3_8 := R3.out.at_ 8 _ rfl; have k3_9 := R3.out.at_ 9 _ rfl; have k3_10 := R3.out.at_ 10 _ rfl; have k3_11 := R3.out.at_ 11 _ rfl; have k3_12 := R3.out.at_ 12 _ rfl))
      | (go_at_call 25; ((with_reducible refine (cbd _).mono ?_); rintro e Y ⟨rfl, hbY⟩; replace R1 := Lib.hid (R1.out.keep hbY); replace R2 := Lib.hid (R2.out.keep hbY); replace R3 := Lib.hid (R3.out.keep hbY); replace HZ := Lib.hid (pb2 HZ.out hbY); clear hbY k1_0 k1_1 k1_2 k1_3 k1_4 k1_5 k1_6 k1_7 k1_8 k1_9 k1_10 k1_11 k1_12 k2_0 k2_1 k2_2 k2_3 k2_4 k2_5 k2_6 k2_7 k2_8 k2_9 k2_10 k2_11 k2_12 k3_0 k3_1 k3_2 k3_3 k3_4 k3_5 k3_6 k3_7 k3_8 k3_9 k3_10 k3_11 k3_12; have k1_0 := R1.out.at_ 0 _ rfl; have k1_1 := R1.out.at_ 1 _ rfl; have k1_2 := R1.out.at_ 2 _ rfl; have k1_3 := R1.out.at_ 3 _ rfl; have k1_4 := R1.out.at_ 4 _ rfl; have k1_5 := R1.out.at_ 5 _ rfl; have k1_6 := R1.out.at_ 6 _ rfl; have k1_7 := R1.out.at_ 7 _ rfl; have k1_8 := R1.out.at_ 8 _ rfl; have k1_9 := R1.out.at_ 9 _ rfl; have k1_10 := R1.out.at_ 10 _ rfl; have k1_11 := R1.out.at_ 11 _ rfl; have k1_12 := R1.out.at_ 12 _ rfl; have k2_0 := R2.out.at_ 0 _ rfl; have k2_1 := R2.out.at_ 1 _ rfl; have k2_2 := R2.out.at_ 2 _ rfl; have k2_3 := R2.out.at_ 3 _ rfl; have k2_4 := R2.out.at_ 4 _ rfl; have k2_5 := R2.out.at_ 5 _ rfl; have k2_6 := R2.out.at_ 6 _ rfl; have k2_7 := R2.out.at_ 7 _ rfl; have k2_8 := R2.out.at_ 8 _ rfl; have k2_9 := R2.out.at_ 9 _ rfl; have k2_10 := R2.out.at_ 10 _ rfl; have k2_11 := R2.out.at_ 11 _ rfl; have k2_12 := R2.out.at_ 12 _ rfl; have k3_0 := R3.out.at_ 0 _ rfl; have k3_1 := R3.out.at_ 1 _ rfl; have k3_2 := R3.out.at_ 2 _ rfl; have k3_3 := R3.out.at_ 3 _ rfl; have k3_4 := R3.out.at_ 4 _ rfl; have k3_5 := R3.out.at_ 5 _ rfl; have k3_6 := R3.out.at_ 6 _ rfl; have k3_7 := R3.out.at_ 7 _ rfl; have k3_8 := R3.out.at_ 8 _ rfl; have k3_9 := R3.out.at_ 9 _ rfl; have k3_10 := R3.out.at_ 10 _ rfl; have k3_11 := R3.out.at_ 11 _ rfl; have k3_12 := R3.out.at_ 12 _ rfl))
      | fail)
     go_meet
     exact ⟨rfl, R1.out, R2.out, R3.out, HZ.out⟩
    ·obtain rfl : Bba = false := H12.out rfl
     cases Bbc
     ·go_wp2_with (first
      | (go_at_call 25; ((with_reducible refine (caa _).mono ?_); rintro e Y ⟨rfl, hbY⟩; replace R1 := Lib.hid (R1.out.keep hbY); replace R2 := Lib.hid (R2.out.keep hbY); replace R3 := Lib.hid (R3.out.keep hbY); replace HZ := Lib.hid (pb2 HZ.out hbY); clear hbY k1_0 k1_1 k1_2 k1_3 k1_4 k1_5 k1_6 k1_7 k1_8 k1_9 k1_10 k1_11 k1_12 k2_0 k2_1 k2_2 k2_3 k2_4 k2_5 k2_6 k2_7 k2_8 k2_9 k2_10 k2_11 k2_12 k3_0 k3_1 k3_2 k3_3 k3_4 k3_5 k3_6 k3_7 k3_8 k3_9 k3_10 k3_11 k3_12; have k1_0 := R1.out.at_ 0 _ rfl; have k1_1 := R1.out.at_ 1 _ rfl; have k1_2 := R1.out.at_ 2 _ rfl; have k1_3 := R1.out.at_ 3 _ rfl; have k1_4 := R1.out.at_ 4 _ rfl; have k1_5 := R1.out.at_ 5 _ rfl; have k1_6 := R1.out.at_ 6 _ rfl; have k1_7 := R1.out.at_ 7 _ rfl; have k1_8 := R1.out.at_ 8 _ rfl; have k1_9 := R1.out.at_ 9 _ rfl; have k1_10 := R1.out.at_ 10 _ rfl; have k1_11 := R1.out.at_ 11 _ rfl; have k1_12 := R1.out.at_ 12 _ rfl; have k2_0 := R2.out.at_ 0 _ rfl; have k2_1 := R2.out.at_ 1 _ rfl; have k2_2 := R2.out.at_ 2 _ rfl; have k2_3 := R2.out.at_ 3 _ rfl; have k2_4 := R2.out.at_ 4 _ rfl; have k2_5 := R2.out.at_ 5 _ rfl; have k2_6 := R2.out.at_ 6 _ rfl; have k2_7 := R2.out.at_ 7 _ rfl; have k2_8 := R2.out.at_ 8 _ rfl; have k2_9 := R2.out.at_ 9 _ rfl; have k2_10 := R2.out.at_ 10 _ rfl; have k2_11 := R2.out.at_ 11 _ rfl; have k2_12 := R2.out.at_ 12 _ rfl; have k3_0 := R3.out.at_ 0 _ rfl; have k3_1 := R3.out.at_ 1 _ rfl; have k3_2 := R3.out.at_ 2 _ rfl; have k3_3 := R3.out.at_ 3 _ rfl; have k3_4 := R3.out.at_ 4 _ rfl; have k3_5 := R3.out.at_ 5 _ rfl; have k3_6 := R3.out.at_ 6 _ rfl; have k3_7 := R3.out.at_ 7 _ rfl; have k3_8 := R3.out.at_ 8 _ rfl; have k3_9 := R3.out.at_ 9 _ rfl; have k3_10 := R3.out.at_ 10 _ rfl; have k3_11 := R3.out.at_ 11 _ rfl; have k3_12 := R3.out.at_ 12 _ rfl))
      | (go_at_call 25; ((with_reducible refine (cab _).mono ?_); rintro e Y ⟨rfl, hbY⟩; replace R1 := Lib.hid (R1.out.keep hbY); replace R2 := Lib.hid (R2.out.keep hbY); replace R3 := Lib.hid (R3.out.keep hbY); replace HZ := Lib.hid (pb2 HZ.out hbY); clear hbY k1_0 k1_1 k1_2 k1_3 k1_4 k1_5 k1_6 k1_7 k1_8 k1_9 k1_10 k1_11 k1_12 k2_0 k2_1 k2_2 k2_3 k2_4 k2_5 k2_6 k2_7 k2_8 k2_9 k2_10 k2_11 k2_12 k3_0 k3_1 k3_2 k3_3 k3_4 k3_5 k3_6 k3_7 k3_8 k3_9 k3_10 k3_11 k3_12; have k1_0 := R1.out.at_ 0 _ rfl; have k1_1 := R1.out.at_ 1 _ rfl; have k1_2 := R1.out.at_ 2 _ rfl; have k1_3 := R1.out.at_ 3 _ rfl; have k1_4 := R1.out.at_ 4 _ rfl; have k1_5 := R1.out.at_ 5 _ rfl; have k1_6 := R1.out.at_ 6 _ rfl; have k1_7 := R1.out.at_ 7 _ rfl; have k1_8 := R1.out.at_ 8 _ rfl; have k1_9 := R1.out.at_ 9 _ rfl; have k1_10 := R1.out.at_ 10 _ rfl; have k1_11 := R1.out.at_ 11 _ rfl; have k1_12 := R1.out.at_ 12 _ rfl; have k2_0 := R2.out.at_ 0 _ rfl; have k2_1 := R2.out.at_ 1 _ rfl; have k2_2 := R2.out.at_ 2 _ rfl; have k2_3 := R2.out.at_ 3 _ rfl; have k2_4 := R2.out.at_ 4 _ rfl; have k2_5 := R2.out.at_ 5 _ rfl; have k2_6 := R2.out.at_ 6 _ rfl; have k2_7 := R2.out.at_ 7 _ rfl; have k2_8 := R2.out.at_ 8 _ rfl; have k2_9 := R2.out.at_ 9 _ rfl; have k2_10 := R2.out.at_ 10 _ rfl; have k2_11 := R2.out.at_ 11 _ rfl; have k2_12 := R2.out.at_ 12 _ rfl; have k3_0 := R3.out.at_ 0 _ rfl; have k3_1 := R3.out.at_ 1 _ rfl; have k3_2 := R3.out.at_ 2 _ rfl; have k3_3 := R3.out.at_ 3 _ rfl; have k3_4 := R3.out.at_ 4 _ rfl; have k3_5 := R3.out.at_ 5 _ rfl; have k3_6 := R3.out.at_ 6 _ rfl; have k3_7 := R3.out.at_ 7 _ rfl; have k3_8 := R3.out.at_ 8 _ rfl; have k3_9 := R3.out.at_ 9 _ rfl; have k3_10 := R3.out.at_ 10 _ rfl; have k3_11 := R3.out.at_ 11 _ rfl; have k3_12 := R3.out.at_ 12 _ rfl))
      | (go_at_call 25; ((with_reducible refine (cba _).mono ?_); rintro e Y ⟨rfl, hbY⟩; replace R1 := Lib.hid (R1.out.keep hbY); replace R2 := Lib.hid (R2.out.keep hbY); replace R3 := Lib.hid (R3.out.keep hbY); replace HZ := Lib.hid (pb2 HZ.out hbY); clear hbY k1_0 k1_1 k1_2 k1_3 k1_4 k1_5 k1_6 k1_7 k1_8 k1_9 k1_10 k1_11 k1_12 k2_0 k2_1 k2_2 k2_3 k2_4 k2_5 k2_6 k2_7 k2_8 k2_9 k2_10 k2_11 k2_12 k3_0 k3_1 k3_2 k3_3 k3_4 k3_5 k3_6 k3_7 k3_8 k3_9 k3_10 k3_11 k3_12; have k1_0 := R1.out.at_ 0 _ rfl; have k1_1 := R1.out.at_ 1 _ rfl; have k1_2 := R1.out.at_ 2 _ rfl; have k1_3 := R1.out.at_ 3 _ rfl; have k1_4 := R1.out.at_ 4 _ rfl; have k1_5 := R1.out.at_ 5 _ rfl; have k1_6 := R1.out.at_ 6 _ rfl; have k1_7 := R1.out.at_ 7 _ rfl; have k1_8 := R1.out.at_ 8 _ rfl; have k1_9 := R1.out.at_ 9 _ rfl; have k1_10 := R1.out.at_ 10 _ rfl; have k1_11 := R1.out.at_ 11 _ rfl; have k1_12 := R1.out.at_ 12 _ rfl; have k2_0 := R2.out.at_ 0 _ rfl; have k2_1 := R2.out.at_ 1 _ rfl; have k2_2 := R2.out.at_ 2 _ rfl; have k2_3 := R2.out.at_ 3 _ rfl; have k2_4 := R2.out.at_ 4 _ rfl; have k2_5 := R2.out.at_ 5 _ rfl; have k2_6 := R2.out.at_ 6 _ rfl; have k2_7 := R2.out.at_ 7 _ rfl; have k2_8 := R2.out.at_ 8 _ rfl; have k2_9 := R2.out.at_ 9 _ rfl; have k2_10 := R2.out.at_ 10 _ rfl; have k2_11 := R2.out.at_ 11 _ rfl; have k2_12 := R2.out.at_ 12 _ rfl; have k3_0 := R3.out.at_ 0 _ rfl; have k3_1 := R3.out.at_ 1 _ rfl; have k3_2 := R3.out.at_ 2 _ rfl; have k3_3 := R3.out.at_ 3 _ rfl; have k3_4 := R3.out.at_ 4 _ rfl; have k3_5 := R3.out.at_ 5 _ rfl; have k3_6 := R3.out.at_ 6 _ rfl; have k3_7 := R3.out.at_ 7 _ rfl; have k3_8 := R3.out.at_ 8 _ rfl; have k3_9 := R3.out.at_ 9 _ rfl; have k3_10 := R3.out.at_ 10 _ rfl; have k3_11 := R3.out.at_ 11 _ rfl; have k3_12 := R3.out.at_ 12 _ rfl))
      | (go_at_call 25; ((with_reducible refine (cbd _).mono ?_); rintro e Y ⟨rfl, hbY⟩; replace R1 := Lib.hid (R1.out.keep hbY); replace R2 := Lib.hid (R2.out.keep hbY); replace R3 := Lib.hid (R3.out.keep hbY); replace HZ := Lib.hid (pb2 HZ.out hbY); clear hbY k1_0 k1_1 k1_2 k1_3 k1_4 k1_5 k1_6 k1_7 k1_8 k1_9 k1_10 k1_11 k1_12 k2_0 k2_1 k2_2 k2_3 k2_4 k2_5 k2_6 k2_7 k2_8 k2_9 k2_10 k2_11 k2_12 k3_0 k3_1 k3_2 k3_3 k3_4 k3_5 k3_6 k3_7 k3_8 k3_9 k3_10 k3_11 k3_12; have k1_0 := R1.out.at_ 0 _ rfl; have k1_1 := R1.out.at_ 1 _ rfl; have k1_2 := R1.out.at_ 2 _ rfl; have k1_3 := R1.out.at_ 3 _ rfl; have k1_4 := R1.out.at_ 4 _ rfl; have k1_5 := R1.out.at_ 5 _ rfl; have k1_6 := R1.out.at_ 6 _ rfl; have k1_7 := R1.out.at_ 7 _ rfl; have k1_8 := R1.out.at_ 8 _ rfl; have k1_9 := R1.out.at_ 9 _ rfl; have k1_10 := R1.out.at_ 10 _ rfl; have k1_11 := R1.out.at_ 11 _ rfl; have k1_12 := R1.out.at_ 12 _ rfl; have k2_0 := R2.out.at_ 0 _ rfl; have k2_1 := R2.out.at_ 1 _ rfl; have k2_2 := R2.out.at_ 2 _ rfl; have k2_3 := R2.out.at_ 3 _ rfl; have k2_4 := R2.out.at_ 4 _ rfl; have k2_5 := R2.out.at_ 5 _ rfl; have k2_6 := R2.out.at_ 6 _ rfl; have k2_7 := R2.out.at_ 7 _ rfl; have k2_8 := R2.out.at_ 8 _ rfl; have k2_9 := R2.out.at_ 9 _ rfl; have k2_10 := R2.out.at_ 10 _ rfl; have k2_11 := R2.out.at_ 11 _ rfl; have k2_12 := R2.out.at_ 12 _ rfl; have k3_0 := R3.out.at_ 0 _ rfl; have k3_1 := R3.out.at_ 1 _ rfl; have k3_2 := R3.out.at_ 2 _ rfl; have k3_3 := R3.out.at_ 3 _ rfl; have k3_4 := R3.out.at_ 4 _ rfl; have k3_5 := R3.out.at_ 5 _ rfl; have k3_6 := R3.out.at_ 6 _ rfl; have k3_7 := R3.out.at_ 7 _ rfl; have k3_8 := R3.out.at_ 8 _ rfl; have k3_9 := R3.out.at_ 9 _ rfl; have k3_10 := R3.out.at_ 10 _ rfl; have k3_11 := R3.out.at_ 11 _ rfl; have k3_12 := R3.out.at_ 12 _ rfl))
      | fail)
      go_meet
      exact ⟨rfl, R1.out, R2.out, R3.out, HZ.out⟩
     ·have cad1 := fun W => cad W rfl rfl
      clear cad
      go_wp2_with (first
      | (go_at_call 25; ((with_reducible refine (caa _).mono ?_); rintro e Y ⟨rfl, hbY⟩; replace R1 := Lib.hid (R1.out.keep hbY); replace R2 := Lib.hid (R2.out.keep hbY); replace R3 := Lib.hid (R3.out.keep hbY); replace HZ := Lib.hid (pb2 HZ.out hbY); clear hbY k1_0 k1_1 k1_2 k1_3 k1_4 k1_5 k1_6 k1_7 k1_8 k1_9 k1_10 k1_11 k1_12 k2_0 k2_1 k2_2 k2_3 k2_4 k2_5 k2_6 k2_7 k2_8 k2_9 k2_10 k2_11 k2_12 k3_0 k3_1 k3_2 k3_3 k3_4 k3_5 k3_6 k3_7 k3_8 k3_9 k3_10 k3_11 k3_12; have k1_0 := R1.out.at_ 0 _ rfl; have k1_1 := R1.out.at_ 1 _ rfl; have k1_2 := R1.out.at_ 2 _ rfl; have k1_3 := R1.out.at_ 3 _ rfl; have k1_4 := R1.out.at_ 4 _ rfl; have k1_5 := R1.out.at_ 5 _ rfl; have k1_6 := R1.out.at_ 6 _ rfl; have k1_7 := R1.out.at_ 7 _ rfl; have k1_8 := R1.out.at_ 8 _ rfl; have k1_9 := R1.out.at_ 9 _ rfl; have k1_10 := R1.out.at_ 10 _ rfl; have k1_11 := R1.out.at_ 11 _ rfl; have k1_12 := R1.out.at_ 12 _ rfl; have k2_0 := R2.out.at_ 0 _ rfl; have k2_1 := R2.out.at_ 1 _ rfl; have k2_2 := R2.out.at_ 2 _ rfl; have k2_3 := R2.out.at_ 3 _ rfl; have k2_4 := R2.out.at_ 4 _ rfl; have k2_5 := R2.out.at_ 5 _ rfl; have k2_6 := R2.out.at_ 6 _ rfl; have k2_7 := R2.out.at_ 7 _ rfl; have k2_8 := R2.out.at_ 8 _ rfl; have k2_9 := R2.out.at_ 9 _ rfl; have k2_10 := R2.out.at_ 10 _ rfl; have k2_11 := R2.out.at_ 11 _ rfl; have k2_12 := R2.out.at_ 12 _ rfl; have k3_0 := R3.out.at_ 0 _ rfl; have k3_1 := R3.out.at_ 1 _ rfl; have k3_2 := R3.out.at_ 2 _ rfl; have k3_3 := R3.out.at_ 3 _ rfl; have k3_4 := R3.out.at_ 4 _ rfl; have k3_5 := R3.out.at_ 5 _ rfl; have k3_6 := R3.out.at_ 6 _ rfl; have k3_7 := R3.out.at_ 7 _ rfl; have k3_8 := R3.out.at_ 8 _ rfl; have k3_9 := R3.out.at_ 9 _ rfl; have k3_10 := R3.out.at_ 10 _ rfl; have k3_11 := R3.out.at_ 11 _ rfl; have k3_12 := R3.out.at_ 12 _ rfl))
      | (go_at_call 25; ((with_reducible refine (cab _).mono ?_); rintro e Y ⟨rfl, hbY⟩; replace R1 := Lib.hid (R1.out.keep hbY); replace R2 := Lib.hid (R2.out.keep hbY); replace R3 := Lib.hid (R3.out.keep hbY); replace HZ := Lib.hid (pb2 HZ.out hbY); clear hbY k1_0 k1_1 k1_2 k1_3 k1_4 k1_5 k1_6 k1_7 k1_8 k1_9 k1_10 k1_11 k1_12 k2_0 k2_1 k2_2 k2_3 k2_4 k2_5 k2_6 k2_7 k2_8 k2_9 k2_10 k2_11 k2_12 k3_0 k3_1 k3_2 k3_3 k3_4 k3_5 k3_6 k3_7 k3_8 k3_9 k3_10 k3_11 k3_12; have k1_0 := R1.out.at_ 0 _ rfl; have k1_1 := R1.out.at_ 1 _ rfl; have k1_2 := R1.out.at_ 2 _ rfl; have k1_3 := R1.out.at_ 3 _ rfl; have k1_4 := R1.out.at_ 4 _ rfl; have k1_5 := R1.out.at_ 5 _ rfl; have k1_6 := R1.out.at_ 6 _ rfl; have k1_7 := R1.out.at_ 7 _ rfl; have k1_8 := R1.out.at_ 8 _ rfl; have k1_9 := R1.out.at_ 9 _ rfl; have k1_10 := R1.out.at_ 10 _ rfl; have k1_11 := R1.out.at_ 11 _ rfl; have k1_12 := R1.out.at_ 12 _ rfl; have k2_0 := R2.out.at_ 0 _ rfl; have k2_1 := R2.out.at_ 1 _ rfl; have k2_2 := R2.out.at_ 2 _ rfl; have k2_3 := R2.out.at_ 3 _ rfl; have k2_4 := R2.out.at_ 4 _ rfl; have k2_5 := R2.out.at_ 5 _ rfl; have k2_6 := R2.out.at_ 6 _ rfl; have k2_7 := R2.out.at_ 7 _ rfl; have k2_8 := R2.out.at_ 8 _ rfl; have k2_9 := R2.out.at_ 9 _ rfl; have k2_10 := R2.out.at_ 10 _ rfl; have k2_11 := R2.out.at_ 11 _ rfl; have k2_12 := R2.out.at_ 12 _ rfl; have k3_0 := R3.out.at_ 0 _ rfl; have k3_1 := R3.out.at_ 1 _ rfl; have k3_2 := R3.out.at_ 2 _ rfl; have k3_3 := R3.out.at_ 3 _ rfl; have k3_4 := R3.out.at_ 4 _ rfl; have k3_5 := R3.out.at_ 5 _ rfl; have k3_6 := R3.out.at_ 6 _ rfl; have k3_7 := R3.out.at_ 7 _ rfl; have k3_8 := R3.out.at_ 8 _ rfl; have k3_9 := R3.out.at_ 9 _ rfl; have k3_10 := R3.out.at_ 10 _ rfl; have k3_11 := R3.out.at_ 11 _ rfl; have k3_12 := R3.out.at_ 12 _ rfl))
      | (go_at_call 25; ((with_reducible refine (cba _).mono ?_); rintro e Y ⟨rfl, hbY⟩; replace R1 := Lib.hid (R1.out.keep hbY); replace R2 := Lib.hid (R2.out.keep hbY); replace R3 := Lib.hid (R3.out.keep hbY); replace HZ := Lib.hid (pb2 HZ.out hbY); clear hbY k1_0 k1_1 k1_2 k1_3 k1_4 k1_5 k1_6 k1_7 k1_8 k1_9 k1_10 k1_11 k1_12 k2_0 k2_1 k2_2 k2_3 k2_4 k2_5 k2_6 k2_7 k2_8 k2_9 k2_10 k2_11 k2_12 k3_0 k3_1 k3_2 k3_3 k3_4 k3_5 k3_6 k3_7 k3_8 k3_9 k3_10 k3_11 k3_12; have k1_0 := R1.out.at_ 0 _ rfl; have k1_1 := R1.out.at_ 1 _ rfl; have k1_2 := R1.out.at_ 2 _ rfl; have k1_3 := R1.out.at_ 3 _ rfl; have k1_4 := R1.out.at_ 4 _ rfl; have k1_5 := R1.out.at_ 5 _ rfl; have k1_6 := R1.out.at_ 6 _ rfl; have k1_7 := R1.out.at_ 7 _ rfl; have k1_8 := R1.out.at_ 8 _ rfl; have k1_9 := R1.out.at_ 9 _ rfl; have k1_10 := R1.out.at_ 10 _ rfl; have k1_11 := R1.out.at_ 11 _ rfl; have k1_12 := R1.out.at_ 12 _ rfl; have k2_0 := R2.out.at_ 0 _ rfl; have k2_1 := R2.out.at_ 1 _ rfl; have k2_2 := R2.out.at_ 2 _ rfl; have k2_3 := R2.out.at_ 3 _ rfl; have k2_4 := R2.out.at_ 4 _ rfl; have k2_5 := R2.out.at_ 5 _ rfl; have k2_6 := R2.out.at_ 6 _ rfl; have k2_7 := R2.out.at_ 7 _ rfl; have k2_8 := R2.out.at_ 8 _ rfl; have k2_9 := R2.out.at_ 9 _ rfl; have k2_10 := R2.out.at_ 10 _ rfl; have k2_11 := R2.out.at_ 11 _ rfl; have k2_12 := R2.out.at_ 12 _ rfl; have k3_0 := R3.out.at_ 0 _ rfl; have k3_1 := R3.out.at_ 1 _ rfl; have k3_2 := R3.out.at_ 2 _ rfl; have k3_3 := R3.out.at_ 3 _ rfl; have k3_4 := R3.out.at_ 4 _ rfl; have k3_5 := R3.out.at_ 5 _ rfl; have k3_6 := R3.out.at_ 6 _ rfl; have k3_7 := R3.out.at_ 7 _ rfl; have k3_8 := R3.out.at_ 8 _ rfl; have k3_9 := R3.out.at_ 9 _ rfl; have k3_10 := R3.out.at_ 10 _ rfl; have k3_11 := R3.out.at_ 11 _ rfl; have k3_12 := R3.out.at_ 12 _ rfl))
      | (go_at_call 25; ((with_reducible refine (cbd _).mono ?_); rintro e Y ⟨rfl, hbY⟩; replace R1 := Lib.hid (R1.out.keep hbY); replace R2 := Lib.hid (R2.out.keep hbY); replace R3 := Lib.hid (R3.out.keep hbY); replace HZ := Lib.hid (pb2 HZ.out hbY); clear hbY k1_0 k1_1 k1_2 k1_3 k1_4 k1_5 k1_6 k1_7 k1_8 k1_9 k1_10 k1_11 k1_12 k2_0 k2_1 k2_2 k2_3 k2_4 k2_5 k2_6 k2_7 k2_8 k2_9 k2_10 k2_11 k2_12 k3_0 k3_1 k3_2 k3_3 k3_4 k3_5 k3_6 k3_7 k3_8 k3_9 k3_10 k3_11 k3_12; have k1_0 := R1.out.at_ 0 _ rfl; have k1_1 := R1.out.at_ 1 _ rfl; have k1_2 := R1.out.at_ 2 _ rfl; have k1_3 := R1.out.at_ 3 _ rfl; have k1_4 := R1.out.at_ 4 _ rfl; have k1_5 := R1.out.at_ 5 _ rfl; have k1_6 := R1.out.at_ 6 _ rfl; have k1_7 := R1.out.at_ 7 _ rfl; have k1_8 := R1.out.at_ 8 _ rfl; have k1_9 := R1.out.at_ 9 _ rfl; have k1_10 := R1.out.at_ 10 _ rfl; have k1_11 := R1.out.at_ 11 _ rfl; have k1_12 := R1.out.at_ 12 _ rfl; have k2_0 := R2.out.at_ 0 _ rfl; have k2_1 := R2.out.at_ 1 _ rfl; have k2_2 := R2.out.at_ 2 _ rfl; have k2_3 := R2.out.at_ 3 _ rfl; have k2_4 := R2.out.at_ 4 _ rfl; have k2_5 := R2.out.at_ 5 _ rfl; have k2_6 := R2.out.at_ 6 _ rfl; have k2_7 := R2.out.at_ 7 _ rfl; have k2_8 := R2.out.at_ 8 _ rfl; have k2_9 := R2.out.at_ 9 _ rfl; have k2_10 := R2.out.at_ 10 _ rfl; have k2_11 := R2.out.at_ 11 _ rfl; have k2_12 := R2.out.at_ 12 _ rfl; have k3_0 := R3.out.at_ 0 _ rfl; have k3_1 := R3.out.at_ 1 _ rfl; have k3_2 := R3.out.at_ 2 _ rfl; have k3_3 := R3.out.at_ 3 _ rfl; have k3_4 := R3.out.at_ 4 _ rfl; have k3_5 := R3.out.at_ 5 _ rfl; have k3_6 := R3.out.at_ 6 _ rfl; have k3_7 := R3.out.at_ 7 _ rfl; have k3_8 := R3.out.at_ 8 _ rfl; have k3_9 := R3.out.at_ 9 _ rfl; have k3_10 := R3.out.at_ 10 _ rfl; have k3_11 := R3.out.at_ 11 _ rfl; have k3_12 := R3.out.at_ 12 _ rfl))
      | (go_at_call 25; ((with_reducible refine (cad1 _).mono ?_); rintro e Y ⟨rfl, hbY⟩; replace R1 := Lib.hid (R1.out.keep hbY); replace R2 := Lib.hid (R2.out.keep hbY); replace R3 := Lib.hid (R3.out.keep hbY); replace HZ := Lib.hid (pb2 HZ.out hbY); clear hbY k1_0 k1_1 k1_2 k1_3 k1_4 k1_5 k1_6 k1_7 k1_8 k1_9 k1_10 k1_11 k1_12 k2_0 k2_1 k2_2 k2_3 k2_4 k2_5 k2_6 k2_7 k2_8 k2_9 k2_10 k2_11 k2_12 k3_0 k3_1 k3_2 k3_3 k3_4 k3_5 k3_6 k3_7 k3_8 k3_9 k3_10 k3_11 k3_12; have k1_0 := R1.out.at_ 0 _ rfl; have k1_1 := R1.out.at_ 1 _ rfl; have k1_2 := R1.out.at_ 2 _ rfl; have k1_3 := R1.out.at_ 3 _ rfl; have k1_4 := R1.out.at_ 4 _ rfl; have k1_5 := R1.out.at_ 5 _ rfl; have k1_6 := R1.out.at_ 6 _ rfl; have k1_7 := R1.out.at_ 7 _ rfl; have k1_8 := R1.out.at_ 8 _ rfl; have k1_9 := R1.out.at_ 9 _ rfl; have k1_10 := R1.out.at_ 10 _ rfl; have k1_11 := R1.out.at_ 11 _ rfl; have k1_12 := R1.out.at_ 12 _ rfl; have k2_0 := R2.out.at_ 0 _ rfl; have k2_1 := R2.out.at_ 1 _ rfl; have k2_2 := R2.out.at_ 2 _ rfl; have k2_3 := R2.out.at_ 3 _ rfl; have k2_4 := R2.out.at_ 4 _ rfl; have k2_5 := R2.out.at_ 5 _ rfl; have k2_6 := R2.out.at_ 6 _ rfl; have k2_7 := R2.out.at_ 7 _ rfl; have k2_8 := R2.out.at_ 8 _ rfl; have k2_9 := R2.out.at_ 9 _ rfl; have k2_10 := R2.out.at_ 10 _ rfl; have k2_11 := R2.out.at_ 11 _ rfl; have k2_12 := R2.out.at_ 12 _ rfl; have k3_0 := R3.out.at_ 0 _ rfl; have k3_1 := R3.out.at_ 1 _ rfl; have k3_2 := R3.out.at_ 2 _ rfl; have k3_3 := R3.out.at_ 3 _ rfl; have k3_4 := R3.out.at_ 4 _ rfl; have k3_5 := R3.out.at_ 5 _ rfl; have k3_6 := R3.out.at_ 6 _ rfl; have k3_7 := R3.out.at_ 7 _ rfl; have k3_8 := R3.out.at_ 8 _ rfl; have k3_9 := R3.out.at_ 9 _ rfl; have k3_10 := R3.out.at_ 10 _ rfl; have k3_11 := R3.out.at_ 11 _ rfl; have k3_12 := R3.out.at_ 12 _ rfl))
      | fail)
      go_meet
      exact ⟨rfl, R1.out, R2.out, R3.out, HZ.out⟩
  case rest =>
   obtain ⟨rfl, hR1, hR2, hR3, hZ⟩ := hcut
   clear R1 R2 R3 HZ caa cbd cad H12
   go_wp2_with (fail)
   have R1 := Lib.hid hR1
   have R2 := Lib.hid hR2
   have HZ := Lib.hid hZ
   have k1_0 := hR1.at_ 0 _ rfl
   have k1_1 := hR1.at_ 1 _ rfl
   have k1_2 := hR1.at_ 2 _ rfl
   have k1_3 := hR1.at_ 3 _ rfl
   have k1_4 := hR1.at_ 4 _ rfl
   have k1_5 := hR1.at_ 5 _ rfl
   have k1_6 := hR1.at_ 6 _ rfl
   have k1_7 := hR1.at_ 7 _ rfl
   have k1_8 := hR1.at_ 8 _ rfl
   have k1_9 := hR1.at_ 9 _ rfl
   have k1_10 := hR1.at_ 10 _ rfl
   have k1_11 := hR1.at_ 11 _ rfl
   have k1_12 := hR1.at_ 12 _ rfl
   have k2_0 := hR2.at_ 0 _ rfl
   have k2_1 := hR2.at_ 1 _ rfl
   have k2_2 := hR2.at_ 2 _ rfl
   have k2_3 := hR2.at_ 3 _ rfl
   have k2_4 := hR2.at_ 4 _ rfl
   have k2_5 := hR2.at_ 5 _ rfl
   have k2_6 := hR2.at_ 6 _ rfl
   have k2_7 := hR2.at_ 7 _ rfl
   have k2_8 := hR2.at_ 8 _ rfl
   have k2_9 := hR2.at_ 9 _ rfl
   have k2_10 := hR2.at_ 10 _ rfl
   have k2_11 := hR2.at_ 11 _ rfl
   have k2_12 := hR2.at_ 12 _ rfl
   clear hR1 hR2 hR3 hZ
   go_cut [115] from 95 to 115 (fun v wx => v = .bool false ∧ Below w4.heap.size w4 wx)
   case first =>
    as_aux_lemma =>
     by_cases hff : f1 = f2
     ·subst hff
      clear k1_2 k1_3 k1_4 k1_5 k1_6 k1_7 k1_8 k1_9 k1_10 k1_11 k1_12 k2_2 k2_3 k2_4 k2_5 k2_6 k2_7 k2_8 k2_9 k2_10 k2_11 k2_12 cab cba
      refine wp_region_held_drew (S := fun W => W.cell? ⟨q1, 0, none⟩ = some (.int .i64 t1) ∧ W.cell? ⟨q1, 1, none⟩ = some (.int .i64 f1) ∧ W.cell? ⟨q2, 0, none⟩ = some (.int .i64 t2) ∧ W.cell? ⟨q2, 1, none⟩ = some (.int .i64 f1) ∧ Below wc.heap.size wc W) (by kernel_rfl) (by first | exact ⟨k1_0, k1_1, k2_0, k2_1, Below.refl _ _⟩ | exact ⟨k1_0, k1_1, k2_0, k2_1, (Below.refl _ _).drew⟩) (fun hHeld => ?_)
      refine wpAnyH_take (i := 0) (v := ?_) rfl (by kernel_rfl) (by kernel_rfl) (by kernel_rfl) (fun _ _ _ h => h) (Or.inl ⟨by rfl, ?_⟩) hHeld ?_; rotate_left
      ·(intro wS hSw; (try dsimp only at hSw); (try go_split_ands); go_simp; try with_reducible rfl)
      try simp only [ga, gb, gc, Act.put, gs, gd, ge]
      refine wpAnyH_take (i := 1) (v := ?_) rfl (by kernel_rfl) (by kernel_rfl) (by kernel_rfl) (fun _ _ _ h => h) (Or.inl ⟨by rfl, ?_⟩) hHeld ?_; rotate_left
      ·(intro wS hSw; (try dsimp only at hSw); (try go_split_ands); go_simp; try with_reducible rfl)
      try simp only [ga, gb, gc, Act.put, gs, gd, ge]
      refine wpAnyH_take (i := 2) (v := ?_) rfl (by kernel_rfl) (by kernel_rfl) (by kernel_rfl) (fun _ _ _ h => h) (Or.inl ⟨by rfl, ?_⟩) hHeld ?_; rotate_left
      ·(intro wS hSw; (try dsimp only at hSw); (try go_split_ands); go_simp; try with_reducible rfl)
      try simp only [ga, gb, gc, Act.put, gs, gd, ge]
      refine wpAnyH_take (i := 3) (v := ?_) rfl (by kernel_rfl) (by kernel_rfl) (by kernel_rfl) (fun _ _ _ h => h) (Or.inl ⟨by rfl, ?_⟩) hHeld ?_; rotate_left
      ·(intro wS hSw; (try dsimp only at hSw); (try go_split_ands); go_simp; try with_reducible rfl)
      try simp only [ga, gb, gc, Act.put, gs, gd, ge]
      refine wpAnyH_take (i := 4) (v := ?_) rfl (by kernel_rfl) (by kernel_rfl) (by kernel_rfl) (fun _ _ _ h => h) (Or.inl ⟨by rfl, ?_⟩) hHeld ?_; rotate_left
      ·(intro wS hSw; (try dsimp only at hSw); (try go_split_ands); go_simp; try with_reducible rfl)
      try simp only [ga, gb, gc, Act.put, gs, gd, ge]
      refine wpAnyH_take (i := 5) (v := ?_) rfl (by kernel_rfl) (by kernel_rfl) (by kernel_rfl) (fun _ _ _ h => h) (Or.inl ⟨by rfl, ?_⟩) hHeld ?_; rotate_left
      ·(intro wS hSw; (try dsimp only at hSw); (try go_split_ands); go_simp; try with_reducible rfl)
      try simp only [ga, gb, gc, Act.put, gs, gd, ge]
      refine wpAnyH_take (i := 6) (v := undef) rfl (by kernel_rfl) (by kernel_rfl) (by kernel_rfl) (fun _ _ _ h => h) (Or.inr ⟨by rfl, rfl⟩) hHeld ?_
      try simp only [ga, gb, gc, Act.put, gs, gd, ge]
      refine wpAnyH_take (i := 7) (v := undef) rfl (by kernel_rfl) (by kernel_rfl) (by kernel_rfl) (fun _ _ _ h => h) (Or.inr ⟨by rfl, rfl⟩) hHeld ?_
      try simp only [ga, gb, gc, Act.put, gs, gd, ge]
      refine wpAnyH_take (i := 8) (v := undef) rfl (by kernel_rfl) (by kernel_rfl) (by kernel_rfl) (fun _ _ _ h => h) (Or.inr ⟨by rfl, rfl⟩) hHeld ?_
      try simp only [ga, gb, gc, Act.put, gs, gd, ge]
      refine wpAnyH_take (i := 9) (v := undef) rfl (by kernel_rfl) (by kernel_rfl) (by kernel_rfl) (fun _ _ _ h => h) (Or.inr ⟨by rfl, rfl⟩) hHeld ?_
      try simp only [ga, gb, gc, Act.put, gs, gd, ge]
      refine wpAnyH_take (i := 10) (v := undef) rfl (by kernel_rfl) (by kernel_rfl) (by kernel_rfl) (fun _ _ _ h => h) (Or.inr ⟨by rfl, rfl⟩) hHeld ?_
      try simp only [ga, gb, gc, Act.put, gs, gd, ge]
      refine wpAnyH_take (i := 11) (v := ?_) rfl (by kernel_rfl) (by kernel_rfl) (by kernel_rfl) (fun _ _ _ h => h) (Or.inl ⟨by rfl, ?_⟩) hHeld ?_; rotate_left
      ·(intro wS hSw; (try dsimp only at hSw); (try go_split_ands); go_simp; try with_reducible rfl)
      try simp only [ga, gb, gc, Act.put, gs, gd, ge]
      refine wpAnyH_take (i := 12) (v := ?_) rfl (by kernel_rfl) (by kernel_rfl) (by kernel_rfl) (fun _ _ _ h => h) (Or.inl ⟨by rfl, ?_⟩) hHeld ?_; rotate_left
      ·(intro wS hSw; (try dsimp only at hSw); (try go_split_ands); go_simp; try with_reducible rfl)
      try simp only [ga, gb, gc, Act.put, gs, gd, ge]
      refine wpAnyH_take (i := 13) (v := undef) rfl (by kernel_rfl) (by kernel_rfl) (by kernel_rfl) (fun _ _ _ h => h) (Or.inr ⟨by rfl, rfl⟩) hHeld ?_
      try simp only [ga, gb, gc, Act.put, gs, gd, ge]
      refine wpAnyH_take (i := 14) (v := undef) rfl (by kernel_rfl) (by kernel_rfl) (by kernel_rfl) (fun _ _ _ h => h) (Or.inr ⟨by rfl, rfl⟩) hHeld ?_
      try simp only [ga, gb, gc, Act.put, gs, gd, ge]
      refine wpAnyH_take (i := 15) (v := undef) rfl (by kernel_rfl) (by kernel_rfl) (by kernel_rfl) (fun _ _ _ h => h) (Or.inr ⟨by rfl, rfl⟩) hHeld ?_
      try simp only [ga, gb, gc, Act.put, gs, gd, ge]
      refine wpAnyH_take (i := 16) (v := undef) rfl (by kernel_rfl) (by kernel_rfl) (by kernel_rfl) (fun _ _ _ h => h) (Or.inr ⟨by rfl, rfl⟩) hHeld ?_
      try simp only [ga, gb, gc, Act.put, gs, gd, ge]
      refine wpAnyH_take (i := 17) (v := undef) rfl (by kernel_rfl) (by kernel_rfl) (by kernel_rfl) (fun _ _ _ h => h) (Or.inr ⟨by rfl, rfl⟩) hHeld ?_
      try simp only [ga, gb, gc, Act.put, gs, gd, ge]
      refine wpAnyH_take (i := 18) (v := undef) rfl (by kernel_rfl) (by kernel_rfl) (by kernel_rfl) (fun _ _ _ h => h) (Or.inr ⟨by rfl, rfl⟩) hHeld ?_
      try simp only [ga, gb, gc, Act.put, gs, gd, ge]
      refine wpAnyH_take (i := 19) (v := undef) rfl (by kernel_rfl) (by kernel_rfl) (by kernel_rfl) (fun _ _ _ h => h) (Or.inr ⟨by rfl, rfl⟩) hHeld ?_
      try simp only [ga, gb, gc, Act.put, gs, gd, ge]
      refine wpAnyH_take (i := 20) (v := ?_) rfl (by kernel_rfl) (by kernel_rfl) (by kernel_rfl) (fun _ _ _ h => h) (Or.inl ⟨by rfl, ?_⟩) hHeld ?_; rotate_left
      ·(intro wS hSw; (try dsimp only at hSw); (try go_split_ands); go_simp; try with_reducible rfl)
      try simp only [ga, gb, gc, Act.put, gs, gd, ge]
      refine wpAnyH_done (by kernel_rfl) ?_ _
      have HX := Lib.hid hHeld.2.2.2.2
      clear hHeld
      go_wp2_with (fail)
      go_meet
      exact ⟨by simp, pb2 HZ.out HX.out⟩
     have hfq : (f1 != f2) = true := by simpa using hff
     have hfq2 : (f1 == f2) = false := by simpa using hff
     by_cases htt : t1 = t2
     rotate_left
     ·have htq : (t1 == t2) = false := by simpa using htt
      clear k1_2 k1_3 k1_4 k1_5 k1_6 k1_7 k1_8 k1_9 k1_10 k1_11 k1_12 k2_2 k2_3 k2_4 k2_5 k2_6 k2_7 k2_8 k2_9 k2_10 k2_11 k2_12 cab cba
      refine wp_region_held_drew (S := fun W => W.cell? ⟨q1, 0, none⟩ = some (.int .i64 t1) ∧ W.cell? ⟨q1, 1, none⟩ = some (.int .i64 f1) ∧ W.cell? ⟨q2, 0, none⟩ = some (.int .i64 t2) ∧ W.cell? ⟨q2, 1, none⟩ = some (.int .i64 f2) ∧ Below wc.heap.size wc W) (by kernel_rfl) (by first | exact ⟨k1_0, k1_1, k2_0, k2_1, Below.refl _ _⟩ | exact ⟨k1_0, k1_1, k2_0, k2_1, (Below.refl _ _).drew⟩) (fun hHeld => ?_)
      refine wpAnyH_take (i := 0) (v := ?_) rfl (by kernel_rfl) (by kernel_rfl) (by kernel_rfl) (fun _ _ _ h => h) (Or.inl ⟨by rfl, ?_⟩) hHeld ?_; rotate_left
      ·(intro wS hSw; (try dsimp only at hSw); (try go_split_ands); go_simp; try with_reducible rfl)
      try simp only [ga, gb, gc, Act.put, gs, gd, ge]
      refine wpAnyH_take (i := 1) (v := ?_) rfl (by kernel_rfl) (by kernel_rfl) (by kernel_rfl) (fun _ _ _ h => h) (Or.inl ⟨by rfl, ?_⟩) hHeld ?_; rotate_left
      ·(intro wS hSw; (try dsimp only at hSw); (try go_split_ands); go_simp; try with_reducible rfl)
      try simp only [ga, gb, gc, Act.put, gs, gd, ge]
      refine wpAnyH_take (i := 2) (v := ?_) rfl (by kernel_rfl) (by kernel_rfl) (by kernel_rfl) (fun _ _ _ h => h) (Or.inl ⟨by rfl, ?_⟩) hHeld ?_; rotate_left
      ·(intro wS hSw; (try dsimp only at hSw); (try go_split_ands); go_simp; try with_reducible rfl)
      try simp only [ga, gb, gc, Act.put, gs, gd, ge]
      refine wpAnyH_take (i := 3) (v := ?_) rfl (by kernel_rfl) (by kernel_rfl) (by kernel_rfl) (fun _ _ _ h => h) (Or.inl ⟨by rfl, ?_⟩) hHeld ?_; rotate_left
      ·(intro wS hSw; (try dsimp only at hSw); (try go_split_ands); go_simp; try with_reducible rfl)
      try simp only [ga, gb, gc, Act.put, gs, gd, ge]
      refine wpAnyH_take (i := 4) (v := ?_) rfl (by kernel_rfl) (by kernel_rfl) (by kernel_rfl) (fun _ _ _ h => h) (Or.inl ⟨by rfl, ?_⟩) hHeld ?_; rotate_left
      ·(intro wS hSw; (try dsimp only at hSw); (try go_split_ands); go_simp; try with_reducible rfl)
      try simp only [ga, gb, gc, Act.put, gs, gd, ge]
      refine wpAnyH_take (i := 5) (v := ?_) rfl (by kernel_rfl) (by kernel_rfl) (by kernel_rfl) (fun _ _ _ h => h) (Or.inl ⟨by rfl, ?_⟩) hHeld ?_; rotate_left
      ·(intro wS hSw; (try dsimp only at hSw); (try go_split_ands); go_simp; try with_reducible rfl)
      try simp only [ga, gb, gc, Act.put, gs, gd, ge]
      refine wpAnyH_take (i := 6) (v := ?_) rfl (by kernel_rfl) (by kernel_rfl) (by kernel_rfl) (fun _ _ _ h => h) (Or.inl ⟨by rfl, ?_⟩) hHeld ?_; rotate_left
      ·(intro wS hSw; (try dsimp only at hSw); (try go_split_ands); go_simp; try with_reducible rfl)
      try simp only [ga, gb, gc, Act.put, gs, gd, ge]
      refine wpAnyH_take (i := 7) (v := ?_) rfl (by kernel_rfl) (by kernel_rfl) (by kernel_rfl) (fun _ _ _ h => h) (Or.inl ⟨by rfl, ?_⟩) hHeld ?_; rotate_left
      ·(intro wS hSw; (try dsimp only at hSw); (try go_split_ands); go_simp; try with_reducible rfl)
      try simp only [ga, gb, gc, Act.put, gs, gd, ge]
      refine wpAnyH_take (i := 8) (v := ?_) rfl (by kernel_rfl) (by kernel_rfl) (by kernel_rfl) (fun _ _ _ h => h) (Or.inl ⟨by rfl, ?_⟩) hHeld ?_; rotate_left
      ·(intro wS hSw; (try dsimp only at hSw); (try go_split_ands); go_simp; try with_reducible rfl)
      try simp only [ga, gb, gc, Act.put, gs, gd, ge]
      refine wpAnyH_take (i := 9) (v := ?_) rfl (by kernel_rfl) (by kernel_rfl) (by kernel_rfl) (fun _ _ _ h => h) (Or.inl ⟨by rfl, ?_⟩) hHeld ?_; rotate_left
      ·(intro wS hSw; (try dsimp only at hSw); (try go_split_ands); go_simp; try with_reducible rfl)
      try simp only [ga, gb, gc, Act.put, gs, gd, ge]
      refine wpAnyH_take (i := 10) (v := ?_) rfl (by kernel_rfl) (by kernel_rfl) (by kernel_rfl) (fun _ _ _ h => h) (Or.inl ⟨by rfl, ?_⟩) hHeld ?_; rotate_left
      ·(intro wS hSw; (try dsimp only at hSw); (try go_split_ands); go_simp; try with_reducible rfl)
      try simp only [ga, gb, gc, Act.put, gs, gd, ge]
      refine wpAnyH_take (i := 11) (v := ?_) rfl (by kernel_rfl) (by kernel_rfl) (by kernel_rfl) (fun _ _ _ h => h) (Or.inl ⟨by rfl, ?_⟩) hHeld ?_; rotate_left
      ·(intro wS hSw; (try dsimp only at hSw); (try go_split_ands); go_simp; try with_reducible rfl)
      try simp only [ga, gb, gc, Act.put, gs, gd, ge]
      refine wpAnyH_take (i := 12) (v := ?_) rfl (by kernel_rfl) (by kernel_rfl) (by kernel_rfl) (fun _ _ _ h => h) (Or.inl ⟨by rfl, ?_⟩) hHeld ?_; rotate_left
      ·(intro wS hSw; (try dsimp only at hSw); (try go_split_ands); go_simp; try with_reducible rfl)
      try simp only [ga, gb, gc, Act.put, gs, gd, ge]
      refine wpAnyH_take (i := 13) (v := undef) rfl (by kernel_rfl) (by kernel_rfl) (by kernel_rfl) (fun _ _ _ h => h) (Or.inr ⟨by rfl, rfl⟩) hHeld ?_
      try simp only [ga, gb, gc, Act.put, gs, gd, ge]
      refine wpAnyH_take (i := 14) (v := undef) rfl (by kernel_rfl) (by kernel_rfl) (by kernel_rfl) (fun _ _ _ h => h) (Or.inr ⟨by rfl, rfl⟩) hHeld ?_
      try simp only [ga, gb, gc, Act.put, gs, gd, ge]
      refine wpAnyH_take (i := 15) (v := undef) rfl (by kernel_rfl) (by kernel_rfl) (by kernel_rfl) (fun _ _ _ h => h) (Or.inr ⟨by rfl, rfl⟩) hHeld ?_
      try simp only [ga, gb, gc, Act.put, gs, gd, ge]
      refine wpAnyH_take (i := 16) (v := undef) rfl (by kernel_rfl) (by kernel_rfl) (by kernel_rfl) (fun _ _ _ h => h) (Or.inr ⟨by rfl, rfl⟩) hHeld ?_
      try simp only [ga, gb, gc, Act.put, gs, gd, ge]
      refine wpAnyH_take (i := 17) (v := undef) rfl (by kernel_rfl) (by kernel_rfl) (by kernel_rfl) (fun _ _ _ h => h) (Or.inr ⟨by rfl, rfl⟩) hHeld ?_
      try simp only [ga, gb, gc, Act.put, gs, gd, ge]
      refine wpAnyH_take (i := 18) (v := undef) rfl (by kernel_rfl) (by kernel_rfl) (by kernel_rfl) (fun _ _ _ h => h) (Or.inr ⟨by rfl, rfl⟩) hHeld ?_
      try simp only [ga, gb, gc, Act.put, gs, gd, ge]
      refine wpAnyH_take (i := 19) (v := undef) rfl (by kernel_rfl) (by kernel_rfl) (by kernel_rfl) (fun _ _ _ h => h) (Or.inr ⟨by rfl, rfl⟩) hHeld ?_
      try simp only [ga, gb, gc, Act.put, gs, gd, ge]
      refine wpAnyH_take (i := 20) (v := ?_) rfl (by kernel_rfl) (by kernel_rfl) (by kernel_rfl) (fun _ _ _ h => h) (Or.inl ⟨by rfl, ?_⟩) hHeld ?_; rotate_left
      ·(intro wS hSw; (try dsimp only at hSw); (try go_split_ands); go_simp; try with_reducible rfl)
      try simp only [ga, gb, gc, Act.put, gs, gd, ge]
      refine wpAnyH_done (by kernel_rfl) ?_ _
      have HX := Lib.hid hHeld.2.2.2.2
      clear hHeld
      go_wp2_with (fail)
      go_meet
      exact ⟨by simp, pb2 HZ.out HX.out⟩
     have hbb := H13.out hff htt
     subst htt
     subst hbb
     refine wp_region_held_drew (S := fun W => W.cell? ⟨q1, 0, none⟩ = some (.int .i64 t1) ∧ W.cell? ⟨q1, 1, none⟩ = some (.int .i64 f1) ∧ W.cell? ⟨q1, 2, none⟩ = some (.int .i64 g1) ∧ W.cell? ⟨q1, 3, none⟩ = some (.int .i64 oc1) ∧ W.cell? ⟨q1, 4, none⟩ = some (.int .i64 ok1) ∧ W.cell? ⟨q1, 5, none⟩ = some (.int .i64 oh1) ∧ W.cell? ⟨q1, 6, none⟩ = some (.int .i64 ov1) ∧ W.cell? ⟨q1, 7, none⟩ = some (.int .i64 ae1) ∧ W.cell? ⟨q1, 8, none⟩ = some (.bool ao1) ∧ W.cell? ⟨q1, 9, none⟩ = some (.int .i64 ak1) ∧ W.cell? ⟨q1, 10, none⟩ = some (.int .i64 av1) ∧ W.cell? ⟨q1, 11, none⟩ = some (.int .i64 an1) ∧ W.cell? ⟨q1, 12, none⟩ = some (.slice pa1 ap1.length pc1) ∧ W.cell? ⟨q2, 0, none⟩ = some (.int .i64 t1) ∧ W.cell? ⟨q2, 1, none⟩ = some (.int .i64 f2) ∧ W.cell? ⟨q2, 2, none⟩ = some (.int .i64 g2) ∧ W.cell? ⟨q2, 3, none⟩ = some (.int .i64 oc2) ∧ W.cell? ⟨q2, 4, none⟩ = some (.int .i64 ok2) ∧ W.cell? ⟨q2, 5, none⟩ = some (.int .i64 oh2) ∧ W.cell? ⟨q2, 6, none⟩ = some (.int .i64 ov2) ∧ W.cell? ⟨q2, 7, none⟩ = some (.int .i64 ae2) ∧ W.cell? ⟨q2, 8, none⟩ = some (.bool ao2) ∧ W.cell? ⟨q2, 9, none⟩ = some (.int .i64 ak2) ∧ W.cell? ⟨q2, 10, none⟩ = some (.int .i64 av2) ∧ W.cell? ⟨q2, 11, none⟩ = some (.int .i64 an2) ∧ W.cell? ⟨q2, 12, none⟩ = some (.slice pa2 ap2.length pc2) ∧ Below wc.heap.size wc W) (by kernel_rfl) (by first | exact ⟨k1_0, k1_1, k1_2, k1_3, k1_4, k1_5, k1_6, k1_7, k1_8, k1_9, k1_10, k1_11, k1_12, k2_0, k2_1, k2_2, k2_3, k2_4, k2_5, k2_6, k2_7, k2_8, k2_9, k2_10, k2_11, k2_12, Below.refl _ _⟩ | exact ⟨k1_0, k1_1, k1_2, k1_3, k1_4, k1_5, k1_6, k1_7, k1_8, k1_9, k1_10, k1_11, k1_12, k2_0, k2_1, k2_2, k2_3, k2_4, k2_5, k2_6, k2_7, k2_8, k2_9, k2_10, k2_11, k2_12, (Below.refl _ _).drew⟩) (fun hHeld => ?_)
     refine wpAnyH_take (i := 0) (v := ?_) rfl (by kernel_rfl) (by kernel_rfl) (by kernel_rfl) (fun _ _ _ h => h) (Or.inl ⟨by rfl, ?_⟩) hHeld ?_; rotate_left
     ·(intro wS hSw; (try dsimp only at hSw); (try go_split_ands); go_simp; try with_reducible rfl)
     try simp only [ga, gb, gc, Act.put, gs, gd, ge]
     refine wpAnyH_take (i := 1) (v := ?_) rfl (by kernel_rfl) (by kernel_rfl) (by kernel_rfl) (fun _ _ _ h => h) (Or.inl ⟨by rfl, ?_⟩) hHeld ?_; rotate_left
     ·(intro wS hSw; (try dsimp only at hSw); (try go_split_ands); go_simp; try with_reducible rfl)
     try simp only [ga, gb, gc, Act.put, gs, gd, ge]
     refine wpAnyH_take (i := 2) (v := ?_) rfl (by kernel_rfl) (by kernel_rfl) (by kernel_rfl) (fun _ _ _ h => h) (Or.inl ⟨by rfl, ?_⟩) hHeld ?_; rotate_left
     ·(intro wS hSw; (try dsimp only at hSw); (try go_split_ands); go_simp; try with_reducible rfl)
     try simp only [ga, gb, gc, Act.put, gs, gd, ge]
     refine wpAnyH_take (i := 3) (v := ?_) rfl (by kernel_rfl) (by kernel_rfl) (by kernel_rfl) (fun _ _ _ h => h) (Or.inl ⟨by rfl, ?_⟩) hHeld ?_; rotate_left
     ·(intro wS hSw; (try dsimp only at hSw); (try go_split_ands); go_simp; try with_reducible rfl)
     try simp only [ga, gb, gc, Act.put, gs, gd, ge]
     refine wpAnyH_take (i := 4) (v := ?_) rfl (by kernel_rfl) (by kernel_rfl) (by kernel_rfl) (fun _ _ _ h => h) (Or.inl ⟨by rfl, ?_⟩) hHeld ?_; rotate_left
     ·(intro wS hSw; (try dsimp only at hSw); (try go_split_ands); go_simp; try with_reducible rfl)
     try simp only [ga, gb, gc, Act.put, gs, gd, ge]
     refine wpAnyH_take (i := 5) (v := ?_) rfl (by kernel_rfl) (by kernel_rfl) (by kernel_rfl) (fun _ _ _ h => h) (Or.inl ⟨by rfl, ?_⟩) hHeld ?_; rotate_left
     ·(intro wS hSw; (try dsimp only at hSw); (try go_split_ands); go_simp; try with_reducible rfl)
     try simp only [ga, gb, gc, Act.put, gs, gd, ge]
     refine wpAnyH_take (i := 6) (v := ?_) rfl (by kernel_rfl) (by kernel_rfl) (by kernel_rfl) (fun _ _ _ h => h) (Or.inl ⟨by rfl, ?_⟩) hHeld ?_; rotate_left
     ·(intro wS hSw; (try dsimp only at hSw); (try go_split_ands); go_simp; try with_reducible rfl)
     try simp only [ga, gb, gc, Act.put, gs, gd, ge]
     refine wpAnyH_take (i := 7) (v := ?_) rfl (by kernel_rfl) (by kernel_rfl) (by kernel_rfl) (fun _ _ _ h => h) (Or.inl ⟨by rfl, ?_⟩) hHeld ?_; rotate_left
     ·(intro wS hSw; (try dsimp only at hSw); (try go_split_ands); go_simp; try with_reducible rfl)
     try simp only [ga, gb, gc, Act.put, gs, gd, ge]
     refine wpAnyH_take (i := 8) (v := ?_) rfl (by kernel_rfl) (by kernel_rfl) (by kernel_rfl) (fun _ _ _ h => h) (Or.inl ⟨by rfl, ?_⟩) hHeld ?_; rotate_left
     ·(intro wS hSw; (try dsimp only at hSw); (try go_split_ands); go_simp; try with_reducible rfl)
     try simp only [ga, gb, gc, Act.put, gs, gd, ge]
     refine wpAnyH_take (i := 9) (v := ?_) rfl (by kernel_rfl) (by kernel_rfl) (by kernel_rfl) (fun _ _ _ h => h) (Or.inl ⟨by rfl, ?_⟩) hHeld ?_; rotate_left
     ·(intro wS hSw; (try dsimp only at hSw); (try go_split_ands); go_simp; try with_reducible rfl)
     try simp only [ga, gb, gc, Act.put, gs, gd, ge]
     refine wpAnyH_take (i := 10) (v := ?_) rfl (by kernel_rfl) (by kernel_rfl) (by kernel_rfl) (fun _ _ _ h => h) (Or.inl ⟨by rfl, ?_⟩) hHeld ?_; rotate_left
     ·(intro wS hSw; (try dsimp only at hSw); (try go_split_ands); go_simp; try with_reducible rfl)
     try simp only [ga, gb, gc, Act.put, gs, gd, ge]
     refine wpAnyH_take (i := 11) (v := ?_) rfl (by kernel_rfl) (by kernel_rfl) (by kernel_rfl) (fun _ _ _ h => h) (Or.inl ⟨by rfl, ?_⟩) hHeld ?_; rotate_left
     ·(intro wS hSw; (try dsimp only at hSw); (try go_split_ands); go_simp; try with_reducible rfl)
     try simp only [ga, gb, gc, Act.put, gs, gd, ge]
     refine wpAnyH_take (i := 12) (v := ?_) rfl (by kernel_rfl) (by kernel_rfl) (by kernel_rfl) (fun _ _ _ h => h) (Or.inl ⟨by rfl, ?_⟩) hHeld ?_; rotate_left
     ·(intro wS hSw; (try dsimp only at hSw); (try go_split_ands); go_simp; try with_reducible rfl)
     try simp only [ga, gb, gc, Act.put, gs, gd, ge]
     refine wpAnyH_take (i := 13) (v := ?_) rfl (by kernel_rfl) (by kernel_rfl) (by kernel_rfl) (fun _ _ _ h => h) (Or.inl ⟨by rfl, ?_⟩) hHeld ?_; rotate_left
     ·(intro wS hSw; (try dsimp only at hSw); (try go_split_ands); go_simp; try with_reducible rfl)
     try simp only [ga, gb, gc, Act.put, gs, gd, ge]
     refine wpAnyH_take (i := 14) (v := ?_) rfl (by kernel_rfl) (by kernel_rfl) (by kernel_rfl) (fun _ _ _ h => h) (Or.inl ⟨by rfl, ?_⟩) hHeld ?_; rotate_left
     ·(intro wS hSw; (try dsimp only at hSw); (try go_split_ands); go_simp; try with_reducible rfl)
     try simp only [ga, gb, gc, Act.put, gs, gd, ge]
     refine wpAnyH_take (i := 16) (v := ?_) rfl (by kernel_rfl) (by kernel_rfl) (by kernel_rfl) (fun _ _ _ h => h) (Or.inl ⟨by rfl, ?_⟩) hHeld ?_; rotate_left
     ·(intro wS hSw; (try dsimp only at hSw); (try go_split_ands); go_simp; try with_reducible rfl)
     try simp only [ga, gb, gc, Act.put, gs, gd, ge]
     refine wpAnyH_take (i := 17) (v := ?_) rfl (by kernel_rfl) (by kernel_rfl) (by kernel_rfl) (fun _ _ _ h => h) (Or.inl ⟨by rfl, ?_⟩) hHeld ?_; rotate_left
     ·(intro wS hSw; (try dsimp only at hSw); (try go_split_ands); go_simp; try with_reducible rfl)
     try simp only [ga, gb, gc, Act.put, gs, gd, ge]
     refine wpAnyH_ready (rs := [15]) (by kernel_rfl) (by simp) ?_
     refine AllReadyH.cons rfl (fun K hK => ?_) AllReadyH.nil
     go_simp
     (go_at_call 25; ((with_reducible refine (cab _).mono ?_); rintro e Y ⟨rfl, hbY⟩))
     refine hK.out _ _ ?_ (fun hNext => ?_)
     ·exact ⟨pkc hbY hHeld.1, pkc hbY hHeld.2.1, pkc hbY hHeld.2.2.1, pkc hbY hHeld.2.2.2.1, pkc hbY hHeld.2.2.2.2.1, pkc hbY hHeld.2.2.2.2.2.1, pkc hbY hHeld.2.2.2.2.2.2.1, pkc hbY hHeld.2.2.2.2.2.2.2.1, pkc hbY hHeld.2.2.2.2.2.2.2.2.1, pkc hbY hHeld.2.2.2.2.2.2.2.2.2.1, pkc hbY hHeld.2.2.2.2.2.2.2.2.2.2.1, pkc hbY hHeld.2.2.2.2.2.2.2.2.2.2.2.1, pkc hbY hHeld.2.2.2.2.2.2.2.2.2.2.2.2.1, pkc hbY hHeld.2.2.2.2.2.2.2.2.2.2.2.2.2.1, pkc hbY hHeld.2.2.2.2.2.2.2.2.2.2.2.2.2.2.1, pkc hbY hHeld.2.2.2.2.2.2.2.2.2.2.2.2.2.2.2.1, pkc hbY hHeld.2.2.2.2.2.2.2.2.2.2.2.2.2.2.2.2.1, pkc hbY hHeld.2.2.2.2.2.2.2.2.2.2.2.2.2.2.2.2.2.1, pkc hbY hHeld.2.2.2.2.2.2.2.2.2.2.2.2.2.2.2.2.2.2.1, pkc hbY hHeld.2.2.2.2.2.2.2.2.2.2.2.2.2.2.2.2.2.2.2.1, pkc hbY hHeld.2.2.2.2.2.2.2.2.2.2.2.2.2.2.2.2.2.2.2.2.1, pkc hbY hHeld.2.2.2.2.2.2.2.2.2.2.2.2.2.2.2.2.2.2.2.2.2.1, pkc hbY hHeld.2.2.2.2.2.2.2.2.2.2.2.2.2.2.2.2.2.2.2.2.2.2.1, pkc hbY hHeld.2.2.2.2.2.2.2.2.2.2.2.2.2.2.2.2.2.2.2.2.2.2.2.1, pkc hbY hHeld.2.2.2.2.2.2.2.2.2.2.2.2.2.2.2.2.2.2.2.2.2.2.2.2.1, pkc hbY hHeld.2.2.2.2.2.2.2.2.2.2.2.2.2.2.2.2.2.2.2.2.2.2.2.2.2.1, pb2 hHeld.2.2.2.2.2.2.2.2.2.2.2.2.2.2.2.2.2.2.2.2.2.2.2.2.2.2 hbY⟩
     clear hbY
     clear hK K hHeld
     have hHeld := hNext
     clear hNext
     try simp only [ga, gb, gc, Act.put, gs, gd, ge]
     refine wpAnyH_ready (rs := [18]) (by kernel_rfl) (by simp) ?_
     refine AllReadyH.cons rfl (fun K hK => ?_) AllReadyH.nil
     go_simp
     (go_at_call 25; ((with_reducible refine (cba _).mono ?_); rintro e Y ⟨rfl, hbY⟩))
     refine hK.out _ _ ?_ (fun hNext => ?_)
     ·exact ⟨pkc hbY hHeld.1, pkc hbY hHeld.2.1, pkc hbY hHeld.2.2.1, pkc hbY hHeld.2.2.2.1, pkc hbY hHeld.2.2.2.2.1, pkc hbY hHeld.2.2.2.2.2.1, pkc hbY hHeld.2.2.2.2.2.2.1, pkc hbY hHeld.2.2.2.2.2.2.2.1, pkc hbY hHeld.2.2.2.2.2.2.2.2.1, pkc hbY hHeld.2.2.2.2.2.2.2.2.2.1, pkc hbY hHeld.2.2.2.2.2.2.2.2.2.2.1, pkc hbY hHeld.2.2.2.2.2.2.2.2.2.2.2.1, pkc hbY hHeld.2.2.2.2.2.2.2.2.2.2.2.2.1, pkc hbY hHeld.2.2.2.2.2.2.2.2.2.2.2.2.2.1, pkc hbY hHeld.2.2.2.2.2.2.2.2.2.2.2.2.2.2.1, pkc hbY hHeld.2.2.2.2.2.2.2.2.2.2.2.2.2.2.2.1, pkc hbY hHeld.2.2.2.2.2.2.2.2.2.2.2.2.2.2.2.2.1, pkc hbY hHeld.2.2.2.2.2.2.2.2.2.2.2.2.2.2.2.2.2.1, pkc hbY hHeld.2.2.2.2.2.2.2.2.2.2.2.2.2.2.2.2.2.2.1, pkc hbY hHeld.2.2.2.2.2.2.2.2.2.2.2.2.2.2.2.2.2.2.2.1, pkc hbY hHeld.2.2.2.2.2.2.2.2.2.2.2.2.2.2.2.2.2.2.2.2.1, pkc hbY hHeld.2.2.2.2.2.2.2.2.2.2.2.2.2.2.2.2.2.2.2.2.2.1, pkc hbY hHeld.2.2.2.2.2.2.2.2.2.2.2.2.2.2.2.2.2.2.2.2.2.2.1, pkc hbY hHeld.2.2.2.2.2.2.2.2.2.2.2.2.2.2.2.2.2.2.2.2.2.2.2.1, pkc hbY hHeld.2.2.2.2.2.2.2.2.2.2.2.2.2.2.2.2.2.2.2.2.2.2.2.2.1, pkc hbY hHeld.2.2.2.2.2.2.2.2.2.2.2.2.2.2.2.2.2.2.2.2.2.2.2.2.2.1, pb2 hHeld.2.2.2.2.2.2.2.2.2.2.2.2.2.2.2.2.2.2.2.2.2.2.2.2.2.2 hbY⟩
     clear hbY
     clear hK K hHeld
     have hHeld := hNext
     clear hNext
     try simp only [ga, gb, gc, Act.put, gs, gd, ge]
     refine wpAnyH_take (i := 19) (v := ?_) rfl (by kernel_rfl) (by kernel_rfl) (by kernel_rfl) (fun _ _ _ h => h) (Or.inl ⟨by rfl, ?_⟩) hHeld ?_; rotate_left
     ·(intro wS hSw; (try dsimp only at hSw); (try go_split_ands); go_simp; try with_reducible rfl)
     try simp only [ga, gb, gc, Act.put, gs, gd, ge]
     refine wpAnyH_take (i := 20) (v := ?_) rfl (by kernel_rfl) (by kernel_rfl) (by kernel_rfl) (fun _ _ _ h => h) (Or.inl ⟨by rfl, ?_⟩) hHeld ?_; rotate_left
     ·(intro wS hSw; (try dsimp only at hSw); (try go_split_ands); go_simp; try with_reducible rfl)
     try simp only [ga, gb, gc, Act.put, gs, gd, ge]
     refine wpAnyH_done (by kernel_rfl) ?_ _
     have HX := Lib.hid hHeld.2.2.2.2.2.2.2.2.2.2.2.2.2.2.2.2.2.2.2.2.2.2.2.2.2.2
     clear hHeld
     go_wp2_with (fail)
     go_meet
     exact ⟨by cases Bab <;> simp, pb2 HZ.out HX.out⟩
   case rest =>
    obtain ⟨rfl, hZ⟩ := hcut
    clear R1 R2 HZ k1_0 k1_1 k1_2 k1_3 k1_4 k1_5 k1_6 k1_7 k1_8 k1_9 k1_10 k1_11 k1_12 k2_0 k2_1 k2_2 k2_3 k2_4 k2_5 k2_6 k2_7 k2_8 k2_9 k2_10 k2_11 k2_12 cab cba H13
    have HZ := Lib.hid hZ
    clear hZ
    go_wp2_with (fail)
    go_loopw [118] (fun i wr => ∃ n : Nat, n ≤ l.length ∧ i = .int .i64 n ∧ Below wc.heap.size wc wr) (fun i _ => l.length - (intOf i).toNat)
    case atStart => exact ⟨0, Nat.zero_le _, rfl, Below.refl _ _⟩
    case round =>
     obtain ⟨n, hn, rfl, hbr⟩ := hrel
     have HBR := Lib.hid hbr
     have HZR := Lib.hid (pb2 HZ.out hbr)
     clear hbr
     by_cases hlt : n < l.length
     rotate_left
     ·obtain rfl : n = l.length := by omega
      have HB5 := Lib.hid (pb2 HB4.out HZR.out)
      go_wp2_with (first
       | (go_at_call 23; ((with_reducible refine (ca _ HB5.out).mono ?_); clear ca; rintro e wa ⟨rfl, hba⟩; have HBa := Lib.hid (pb2 HB5.out hba); clear hba))
       | fail)
      go_ret
      exact ⟨by simp, HBa.out⟩
     obtain ⟨c, hc⟩ : ∃ q, l[n]? = some q := ⟨_, List.getElem?_eq_getElem hlt⟩
     obtain ⟨b5, o5, pa5, pc5, hae, hca⟩ := (HC.out.keep HZR.out).2.2 n c hc
     cases hae
     obtain ⟨-, ca1, ca2, -⟩ := hca.ex
     obtain ⟨-, ⟨ev, p, hp1, hp2, hp3, hp4, -⟩, htg⟩ := HI.out.has n c (by rw [HLL.out]; exact hc)
     have hevp : z0[p]? = some ev := by rw [List.getElem?_eq_getElem hp2, ← hp3, List.getD_eq_getElem?_getD, List.getElem?_eq_getElem hp2]; rfl
     obtain ⟨bh, oh', pah, pch, rfl, hea⟩ := (HW.out.keep (pb2 HB4.out HZR.out)).2.2 p ev hevp
     obtain ⟨-, ea1, -⟩ := hea.ex
     rw [hp1] at ca1
     rw [hp4] at ea1
     have hn0 : (0 : Int) ≤ (n : Int) := Int.natCast_nonneg n
     have hnl : (n : Int) < (l.length : Int) := Int.ofNat_lt.2 hlt
     have hp0 : (0 : Int) ≤ (p : Int) := Int.natCast_nonneg p
     have hp0' : ¬ (p : Int) < 0 := by omega
     have hpl : (p : Int) < (z0.length : Int) := Int.ofNat_lt.2 hp2
     have hpl' : ¬ (z0.length : Int) ≤ (p : Int) := by omega
     have hpd1 : decide ((p : Int) < 0) = false := decide_eq_false hp0'
     have hpd2 : decide ((z0.length : Int) ≤ (p : Int)) = false := decide_eq_false hpl'
     have hpd3 : decide (z0.length ≤ p) = false := decide_eq_false (by omega)
     have hpl3 : ¬ z0.length ≤ p := by omega
     have hprev : ∀ m d, n = m + 1 → l[m]? = some d → d.f < (p : Int) := fun m d e hd => by
      have := (HI.out.ord m n d c (by omega) (by rw [HLL.out]; exact hd) (by rw [HLL.out]; exact hc)).1
      omega
     have HPV := Lib.hid hprev
     have hgq : c.g = -1 ∨ ∃ q : Nat, c.g = (q : Int) ∧ (p : Int) < (q : Int) ∧ q < z0.length ∧ ∃ (paq : Option Addr) (pcq : Nat), wr.cell? ⟨bh, oh' + q * 12 + 1, none⟩ = some (.bool true) := by
      rcases htg with ⟨h, _⟩ | ⟨_, q, h1, h2, h3, h4, _⟩
      ·exact .inl h
      ·refine .inr ⟨q, h1, by omega, h3, ?_⟩
       obtain ⟨b7, o7, pa7, pc7, he7, hea7⟩ := (HW.out.keep (pb2 HB4.out HZR.out)).2.2 q _ (List.getElem?_eq_getElem h3)
       cases he7
       have h8 := hea7.ex.2.1
       have h9 : (z0[q]).r = true := by rw [← h4, List.getD_eq_getElem?_getD, List.getElem?_eq_getElem h3]; rfl
       rw [h9] at h8
       exact ⟨none, 0, h8⟩
     clear htg hca hea hc hevp hp1 hp3 hp4 hprev
     obtain ⟨ct, cf, cg, co, cad⟩ := c
     dsimp only at ca1 ca2 hgq
     cases n with
     | zero =>
      rw [show o + 0 * 13 = o by omega] at ca1 ca2
      have hn0' : (0 : Int) ≤ 0 := Int.le_refl _
      have hnl' : (0 : Int) < (l.length : Int) := by omega
      clear hn0 hnl
      rcases hgq with hg1 | ⟨q, hg1, hpq, hq3, -, -, eq1⟩
      ·subst hg1
       go_wp2_with (fail)
       refine wp_region_held_drew (S := fun W => W.cell? ⟨b, o + 1, none⟩ = some (.int .i64 (p : Int)) ∧ W.cell? ⟨b, o + 2, none⟩ = some (.int .i64 (-1)) ∧ W.cell? ⟨bh, oh' + p * 12 + 1, none⟩ = some (.bool false)) (by kernel_rfl) (by first | exact ⟨ca1, ca2, ea1⟩) (fun hHeld => ?_)
       refine wpAnyH_take (i := 0) (v := ?_) rfl (by kernel_rfl) (by kernel_rfl) (by kernel_rfl) (fun _ _ _ h => h) (Or.inl ⟨by rfl, ?_⟩) hHeld ?_; rotate_left
       ·(intro wS hSw; (try dsimp only at hSw); (try go_split_ands); go_simp; try with_reducible rfl)
       try simp only [ga, gb, gc, Act.put, gs, gd, ge]
       refine wpAnyH_take (i := 1) (v := ?_) rfl (by kernel_rfl) (by kernel_rfl) (by kernel_rfl) (fun _ _ _ h => h) (Or.inl ⟨by rfl, ?_⟩) hHeld ?_; rotate_left
       ·(intro wS hSw; (try dsimp only at hSw); (try go_split_ands); go_simp; try with_reducible rfl)
       try simp only [ga, gb, gc, Act.put, gs, gd, ge]
       refine wpAnyH_take (i := 2) (v := ?_) rfl (by kernel_rfl) (by kernel_rfl) (by kernel_rfl) (fun _ _ _ h => h) (Or.inl ⟨by rfl, ?_⟩) hHeld ?_; rotate_left
       ·(intro wS hSw; (try dsimp only at hSw); (try go_split_ands); go_simp; try with_reducible rfl)
       try simp only [ga, gb, gc, Act.put, gs, gd, ge]
       refine wpAnyH_take (i := 3) (v := ?_) rfl (by kernel_rfl) (by kernel_rfl) (by kernel_rfl) (fun _ _ _ h => h) (Or.inl ⟨by rfl, ?_⟩) hHeld ?_; rotate_left
       ·(intro wS hSw; (try dsimp only at hSw); (try go_split_ands); go_simp; try with_reducible rfl)
       try simp only [ga, gb, gc, Act.put, gs, gd, ge]
       refine wpAnyH_take (i := 4) (v := ?_) rfl (by kernel_rfl) (by kernel_rfl) (by kernel_rfl) (fun _ _ _ h => h) (Or.inl ⟨by rfl, ?_⟩) hHeld ?_; rotate_left
       ·(intro wS hSw; (try dsimp only at hSw); (try go_split_ands); go_simp; try with_reducible rfl)
       try simp only [ga, gb, gc, Act.put, gs, gd, ge]
       refine wpAnyH_take (i := 5) (v := ?_) rfl (by kernel_rfl) (by kernel_rfl) (by kernel_rfl) (fun _ _ _ h => h) (Or.inl ⟨by rfl, ?_⟩) hHeld ?_; rotate_left
       ·(intro wS hSw; (try dsimp only at hSw); (try go_split_ands); go_simp; try with_reducible rfl)
       try simp only [ga, gb, gc, Act.put, gs, gd, ge]
       refine wpAnyH_take (i := 6) (v := ?_) rfl (by kernel_rfl) (by kernel_rfl) (by kernel_rfl) (fun _ _ _ h => h) (Or.inl ⟨by rfl, ?_⟩) hHeld ?_; rotate_left
       ·(intro wS hSw; (try dsimp only at hSw); (try go_split_ands); go_simp; try with_reducible rfl)
       try simp only [ga, gb, gc, Act.put, gs, gd, ge]
       refine wpAnyH_take (i := 7) (v := ?_) rfl (by kernel_rfl) (by kernel_rfl) (by kernel_rfl) (fun _ _ _ h => h) (Or.inl ⟨by rfl, ?_⟩) hHeld ?_; rotate_left
       ·(intro wS hSw; (try dsimp only at hSw); (try go_split_ands); go_simp; try with_reducible rfl)
       try simp only [ga, gb, gc, Act.put, gs, gd, ge]
       refine wpAnyH_take (i := 8) (v := ?_) rfl (by kernel_rfl) (by kernel_rfl) (by kernel_rfl) (fun _ _ _ h => h) (Or.inl ⟨by rfl, ?_⟩) hHeld ?_; rotate_left
       ·(intro wS hSw; (try dsimp only at hSw); (try go_split_ands); go_simp; try with_reducible rfl)
       try simp only [ga, gb, gc, Act.put, gs, gd, ge]
       refine wpAnyH_take (i := 9) (v := ?_) rfl (by kernel_rfl) (by kernel_rfl) (by kernel_rfl) (fun _ _ _ h => h) (Or.inl ⟨by rfl, ?_⟩) hHeld ?_; rotate_left
       ·(intro wS hSw; (try dsimp only at hSw); (try go_split_ands); go_simp; try with_reducible rfl)
       try simp only [ga, gb, gc, Act.put, gs, gd, ge]
       refine wpAnyH_take (i := 10) (v := ?_) rfl (by kernel_rfl) (by kernel_rfl) (by kernel_rfl) (fun _ _ _ h => h) (Or.inl ⟨by rfl, ?_⟩) hHeld ?_; rotate_left
       ·(intro wS hSw; (try dsimp only at hSw); (try go_split_ands); go_simp; try with_reducible rfl)
       try simp only [ga, gb, gc, Act.put, gs, gd, ge]
       refine wpAnyH_take (i := 11) (v := ?_) rfl (by kernel_rfl) (by kernel_rfl) (by kernel_rfl) (fun _ _ _ h => h) (Or.inl ⟨by rfl, ?_⟩) hHeld ?_; rotate_left
       ·(intro wS hSw; (try dsimp only at hSw); (try go_split_ands); go_simp; try with_reducible rfl)
       try simp only [ga, gb, gc, Act.put, gs, gd, ge]
       as_aux_lemma =>
        refine wpAnyH_take (i := 12) (v := ?_) rfl (by kernel_rfl) (by kernel_rfl) (by kernel_rfl) (fun _ _ _ h => h) (Or.inl ⟨by rfl, ?_⟩) hHeld ?_; rotate_left
        ·(intro wS hSw; (try dsimp only at hSw); (try go_split_ands); go_simp; try with_reducible rfl)
        try simp only [ga, gb, gc, Act.put, gs, gd, ge]
        refine wpAnyH_take (i := 13) (v := ?_) rfl (by kernel_rfl) (by kernel_rfl) (by kernel_rfl) (fun _ _ _ h => h) (Or.inl ⟨by rfl, ?_⟩) hHeld ?_; rotate_left
        ·(intro wS hSw; (try dsimp only at hSw); (try go_split_ands); go_simp; try with_reducible rfl)
        try simp only [ga, gb, gc, Act.put, gs, gd, ge]
        refine wpAnyH_take (i := 14) (v := ?_) rfl (by kernel_rfl) (by kernel_rfl) (by kernel_rfl) (fun _ _ _ h => h) (Or.inl ⟨by rfl, ?_⟩) hHeld ?_; rotate_left
        ·(intro wS hSw; (try dsimp only at hSw); (try go_split_ands); go_simp; try with_reducible rfl)
        try simp only [ga, gb, gc, Act.put, gs, gd, ge]
        refine wpAnyH_take (i := 15) (v := ?_) rfl (by kernel_rfl) (by kernel_rfl) (by kernel_rfl) (fun _ _ _ h => h) (Or.inl ⟨by rfl, ?_⟩) hHeld ?_; rotate_left
        ·(intro wS hSw; (try dsimp only at hSw); (try go_split_ands); go_simp; try with_reducible rfl)
        try simp only [ga, gb, gc, Act.put, gs, gd, ge]
        refine wpAnyH_take (i := 16) (v := ?_) rfl (by kernel_rfl) (by kernel_rfl) (by kernel_rfl) (fun _ _ _ h => h) (Or.inl ⟨by rfl, ?_⟩) hHeld ?_; rotate_left
        ·(intro wS hSw; (try dsimp only at hSw); (try go_split_ands); go_simp; try with_reducible rfl)
        try simp only [ga, gb, gc, Act.put, gs, gd, ge]
        refine wpAnyH_take (i := 17) (v := ?_) rfl (by kernel_rfl) (by kernel_rfl) (by kernel_rfl) (fun _ _ _ h => h) (Or.inl ⟨by rfl, ?_⟩) hHeld ?_; rotate_left
        ·(intro wS hSw; (try dsimp only at hSw); (try go_split_ands); go_simp; try with_reducible rfl)
        try simp only [ga, gb, gc, Act.put, gs, gd, ge]
        refine wpAnyH_take (i := 18) (v := ?_) rfl (by kernel_rfl) (by kernel_rfl) (by kernel_rfl) (fun _ _ _ h => h) (Or.inl ⟨by rfl, ?_⟩) hHeld ?_; rotate_left
        ·(intro wS hSw; (try dsimp only at hSw); (try go_split_ands); go_simp; try with_reducible rfl)
        try simp only [ga, gb, gc, Act.put, gs, gd, ge]
        refine wpAnyH_take (i := 19) (v := ?_) rfl (by kernel_rfl) (by kernel_rfl) (by kernel_rfl) (fun _ _ _ h => h) (Or.inl ⟨by rfl, ?_⟩) hHeld ?_; rotate_left
        ·(intro wS hSw; (try dsimp only at hSw); (try go_split_ands); go_simp; try with_reducible rfl)
        try simp only [ga, gb, gc, Act.put, gs, gd, ge]
        refine wpAnyH_take (i := 20) (v := ?_) rfl (by kernel_rfl) (by kernel_rfl) (by kernel_rfl) (fun _ _ _ h => h) (Or.inl ⟨by rfl, ?_⟩) hHeld ?_; rotate_left
        ·(intro wS hSw; (try dsimp only at hSw); (try go_split_ands); go_simp; try with_reducible rfl)
        try simp only [ga, gb, gc, Act.put, gs, gd, ge]
        refine wpAnyH_take (i := 21) (v := ?_) rfl (by kernel_rfl) (by kernel_rfl) (by kernel_rfl) (fun _ _ _ h => h) (Or.inl ⟨by rfl, ?_⟩) hHeld ?_; rotate_left
        ·(intro wS hSw; (try dsimp only at hSw); (try go_split_ands); go_simp; try with_reducible rfl)
        try simp only [ga, gb, gc, Act.put, gs, gd, ge]
        refine wpAnyH_take (i := 22) (v := ?_) rfl (by kernel_rfl) (by kernel_rfl) (by kernel_rfl) (fun _ _ _ h => h) (Or.inl ⟨by rfl, ?_⟩) hHeld ?_; rotate_left
        ·(intro wS hSw; (try dsimp only at hSw); (try go_split_ands); go_simp; try with_reducible rfl)
        try simp only [ga, gb, gc, Act.put, gs, gd, ge]
        refine wpAnyH_take (i := 23) (v := ?_) rfl (by kernel_rfl) (by kernel_rfl) (by kernel_rfl) (fun _ _ _ h => h) (Or.inl ⟨by rfl, ?_⟩) hHeld ?_; rotate_left
        ·(intro wS hSw; (try dsimp only at hSw); (try go_split_ands); go_simp; try with_reducible rfl)
        try simp only [ga, gb, gc, Act.put, gs, gd, ge]
        as_aux_lemma =>
         refine wpAnyH_take (i := 24) (v := ?_) rfl (by kernel_rfl) (by kernel_rfl) (by kernel_rfl) (fun _ _ _ h => h) (Or.inl ⟨by rfl, ?_⟩) hHeld ?_; rotate_left
         ·(intro wS hSw; (try dsimp only at hSw); (try go_split_ands); go_simp; try with_reducible rfl)
         try simp only [ga, gb, gc, Act.put, gs, gd, ge]
         refine wpAnyH_take (i := 25) (v := ?_) rfl (by kernel_rfl) (by kernel_rfl) (by kernel_rfl) (fun _ _ _ h => h) (Or.inl ⟨by rfl, ?_⟩) hHeld ?_; rotate_left
         ·(intro wS hSw; (try dsimp only at hSw); (try go_split_ands); go_simp; try with_reducible rfl)
         try simp only [ga, gb, gc, Act.put, gs, gd, ge]
         refine wpAnyH_take (i := 26) (v := ?_) rfl (by kernel_rfl) (by kernel_rfl) (by kernel_rfl) (fun _ _ _ h => h) (Or.inl ⟨by rfl, ?_⟩) hHeld ?_; rotate_left
         ·(intro wS hSw; (try dsimp only at hSw); (try go_split_ands); go_simp; try with_reducible rfl)
         try simp only [ga, gb, gc, Act.put, gs, gd, ge]
         refine wpAnyH_take (i := 27) (v := ?_) rfl (by kernel_rfl) (by kernel_rfl) (by kernel_rfl) (fun _ _ _ h => h) (Or.inl ⟨by rfl, ?_⟩) hHeld ?_; rotate_left
         ·(intro wS hSw; (try dsimp only at hSw); (try go_split_ands); go_simp; try with_reducible rfl)
         try simp only [ga, gb, gc, Act.put, gs, gd, ge]
         refine wpAnyH_take (i := 28) (v := ?_) rfl (by kernel_rfl) (by kernel_rfl) (by kernel_rfl) (fun _ _ _ h => h) (Or.inl ⟨by rfl, ?_⟩) hHeld ?_; rotate_left
         ·(intro wS hSw; (try dsimp only at hSw); (try go_split_ands); go_simp; try with_reducible rfl)
         try simp only [ga, gb, gc, Act.put, gs, gd, ge]
         refine wpAnyH_take (i := 29) (v := ?_) rfl (by kernel_rfl) (by kernel_rfl) (by kernel_rfl) (fun _ _ _ h => h) (Or.inl ⟨by rfl, ?_⟩) hHeld ?_; rotate_left
         ·(intro wS hSw; (try dsimp only at hSw); (try go_split_ands); go_simp; try with_reducible rfl)
         try simp only [ga, gb, gc, Act.put, gs, gd, ge]
         refine wpAnyH_take (i := 30) (v := ?_) rfl (by kernel_rfl) (by kernel_rfl) (by kernel_rfl) (fun _ _ _ h => h) (Or.inl ⟨by rfl, ?_⟩) hHeld ?_; rotate_left
         ·(intro wS hSw; (try dsimp only at hSw); (try go_split_ands); go_simp; try with_reducible rfl)
         try simp only [ga, gb, gc, Act.put, gs, gd, ge]
         refine wpAnyH_take (i := 31) (v := undef) rfl (by kernel_rfl) (by kernel_rfl) (by kernel_rfl) (fun _ _ _ h => h) (Or.inr ⟨by rfl, rfl⟩) hHeld ?_
         try simp only [ga, gb, gc, Act.put, gs, gd, ge]
         refine wpAnyH_take (i := 32) (v := undef) rfl (by kernel_rfl) (by kernel_rfl) (by kernel_rfl) (fun _ _ _ h => h) (Or.inr ⟨by rfl, rfl⟩) hHeld ?_
         try simp only [ga, gb, gc, Act.put, gs, gd, ge]
         refine wpAnyH_take (i := 33) (v := undef) rfl (by kernel_rfl) (by kernel_rfl) (by kernel_rfl) (fun _ _ _ h => h) (Or.inr ⟨by rfl, rfl⟩) hHeld ?_
         try simp only [ga, gb, gc, Act.put, gs, gd, ge]
         refine wpAnyH_take (i := 34) (v := undef) rfl (by kernel_rfl) (by kernel_rfl) (by kernel_rfl) (fun _ _ _ h => h) (Or.inr ⟨by rfl, rfl⟩) hHeld ?_
         try simp only [ga, gb, gc, Act.put, gs, gd, ge]
         refine wpAnyH_take (i := 35) (v := undef) rfl (by kernel_rfl) (by kernel_rfl) (by kernel_rfl) (fun _ _ _ h => h) (Or.inr ⟨by rfl, rfl⟩) hHeld ?_
         try simp only [ga, gb, gc, Act.put, gs, gd, ge]
         as_aux_lemma =>
          refine wpAnyH_take (i := 36) (v := undef) rfl (by kernel_rfl) (by kernel_rfl) (by kernel_rfl) (fun _ _ _ h => h) (Or.inr ⟨by rfl, rfl⟩) hHeld ?_
          try simp only [ga, gb, gc, Act.put, gs, gd, ge]
          refine wpAnyH_take (i := 37) (v := undef) rfl (by kernel_rfl) (by kernel_rfl) (by kernel_rfl) (fun _ _ _ h => h) (Or.inr ⟨by rfl, rfl⟩) hHeld ?_
          try simp only [ga, gb, gc, Act.put, gs, gd, ge]
          refine wpAnyH_take (i := 38) (v := undef) rfl (by kernel_rfl) (by kernel_rfl) (by kernel_rfl) (fun _ _ _ h => h) (Or.inr ⟨by rfl, rfl⟩) hHeld ?_
          try simp only [ga, gb, gc, Act.put, gs, gd, ge]
          refine wpAnyH_take (i := 39) (v := undef) rfl (by kernel_rfl) (by kernel_rfl) (by kernel_rfl) (fun _ _ _ h => h) (Or.inr ⟨by rfl, rfl⟩) hHeld ?_
          try simp only [ga, gb, gc, Act.put, gs, gd, ge]
          refine wpAnyH_take (i := 40) (v := undef) rfl (by kernel_rfl) (by kernel_rfl) (by kernel_rfl) (fun _ _ _ h => h) (Or.inr ⟨by rfl, rfl⟩) hHeld ?_
          try simp only [ga, gb, gc, Act.put, gs, gd, ge]
          refine wpAnyH_take (i := 41) (v := undef) rfl (by kernel_rfl) (by kernel_rfl) (by kernel_rfl) (fun _ _ _ h => h) (Or.inr ⟨by rfl, rfl⟩) hHeld ?_
          try simp only [ga, gb, gc, Act.put, gs, gd, ge]
          refine wpAnyH_take (i := 42) (v := undef) rfl (by kernel_rfl) (by kernel_rfl) (by kernel_rfl) (fun _ _ _ h => h) (Or.inr ⟨by rfl, rfl⟩) hHeld ?_
          try simp only [ga, gb, gc, Act.put, gs, gd, ge]
          refine wpAnyH_take (i := 43) (v := ?_) rfl (by kernel_rfl) (by kernel_rfl) (by kernel_rfl) (fun _ _ _ h => h) (Or.inl ⟨by rfl, ?_⟩) hHeld ?_; rotate_left
          ·(intro wS hSw; (try dsimp only at hSw); (try go_split_ands); go_simp; try with_reducible rfl)
          try simp only [ga, gb, gc, Act.put, gs, gd, ge]
          refine wpAnyH_take (i := 44) (v := ?_) rfl (by kernel_rfl) (by kernel_rfl) (by kernel_rfl) (fun _ _ _ h => h) (Or.inl ⟨by rfl, ?_⟩) hHeld ?_; rotate_left
          ·(intro wS hSw; (try dsimp only at hSw); (try go_split_ands); go_simp; try with_reducible rfl)
          try simp only [ga, gb, gc, Act.put, gs, gd, ge]
          refine wpAnyH_take (i := 45) (v := ?_) rfl (by kernel_rfl) (by kernel_rfl) (by kernel_rfl) (fun _ _ _ h => h) (Or.inl ⟨by rfl, ?_⟩) hHeld ?_; rotate_left
          ·(intro wS hSw; (try dsimp only at hSw); (try go_split_ands); go_simp; try with_reducible rfl)
          try simp only [ga, gb, gc, Act.put, gs, gd, ge]
          refine wpAnyH_take (i := 46) (v := ?_) rfl (by kernel_rfl) (by kernel_rfl) (by kernel_rfl) (fun _ _ _ h => h) (Or.inl ⟨by rfl, ?_⟩) hHeld ?_; rotate_left
          ·(intro wS hSw; (try dsimp only at hSw); (try go_split_ands); go_simp; try with_reducible rfl)
          try simp only [ga, gb, gc, Act.put, gs, gd, ge]
          refine wpAnyH_take (i := 47) (v := ?_) rfl (by kernel_rfl) (by kernel_rfl) (by kernel_rfl) (fun _ _ _ h => h) (Or.inl ⟨by rfl, ?_⟩) hHeld ?_; rotate_left
          ·(intro wS hSw; (try dsimp only at hSw); (try go_split_ands); go_simp; try with_reducible rfl)
          try simp only [ga, gb, gc, Act.put, gs, gd, ge]
          as_aux_lemma =>
           refine wpAnyH_take (i := 48) (v := ?_) rfl (by kernel_rfl) (by kernel_rfl) (by kernel_rfl) (fun _ _ _ h => h) (Or.inl ⟨by rfl, ?_⟩) hHeld ?_; rotate_left
           ·(intro wS hSw; (try dsimp only at hSw); (try go_split_ands); go_simp; try with_reducible rfl)
           try simp only [ga, gb, gc, Act.put, gs, gd, ge]
           refine wpAnyH_take (i := 49) (v := ?_) rfl (by kernel_rfl) (by kernel_rfl) (by kernel_rfl) (fun _ _ _ h => h) (Or.inl ⟨by rfl, ?_⟩) hHeld ?_; rotate_left
           ·(intro wS hSw; (try dsimp only at hSw); (try go_split_ands); go_simp; try with_reducible rfl)
           try simp only [ga, gb, gc, Act.put, gs, gd, ge]
           refine wpAnyH_take (i := 50) (v := ?_) rfl (by kernel_rfl) (by kernel_rfl) (by kernel_rfl) (fun _ _ _ h => h) (Or.inl ⟨by rfl, ?_⟩) hHeld ?_; rotate_left
           ·(intro wS hSw; (try dsimp only at hSw); (try go_split_ands); go_simp; try with_reducible rfl)
           try simp only [ga, gb, gc, Act.put, gs, gd, ge]
           refine wpAnyH_take (i := 51) (v := ?_) rfl (by kernel_rfl) (by kernel_rfl) (by kernel_rfl) (fun _ _ _ h => h) (Or.inl ⟨by rfl, ?_⟩) hHeld ?_; rotate_left
           ·(intro wS hSw; (try dsimp only at hSw); (try go_split_ands); go_simp; try with_reducible rfl)
           try simp only [ga, gb, gc, Act.put, gs, gd, ge]
           refine wpAnyH_take (i := 52) (v := ?_) rfl (by kernel_rfl) (by kernel_rfl) (by kernel_rfl) (fun _ _ _ h => h) (Or.inl ⟨by rfl, ?_⟩) hHeld ?_; rotate_left
           ·(intro wS hSw; (try dsimp only at hSw); (try go_split_ands); go_simp; try with_reducible rfl)
           try simp only [ga, gb, gc, Act.put, gs, gd, ge]
           refine wpAnyH_take (i := 53) (v := undef) rfl (by kernel_rfl) (by kernel_rfl) (by kernel_rfl) (fun _ _ _ h => h) (Or.inr ⟨by rfl, rfl⟩) hHeld ?_
           try simp only [ga, gb, gc, Act.put, gs, gd, ge]
           refine wpAnyH_take (i := 54) (v := undef) rfl (by kernel_rfl) (by kernel_rfl) (by kernel_rfl) (fun _ _ _ h => h) (Or.inr ⟨by rfl, rfl⟩) hHeld ?_
           try simp only [ga, gb, gc, Act.put, gs, gd, ge]
           refine wpAnyH_take (i := 55) (v := undef) rfl (by kernel_rfl) (by kernel_rfl) (by kernel_rfl) (fun _ _ _ h => h) (Or.inr ⟨by rfl, rfl⟩) hHeld ?_
           try simp only [ga, gb, gc, Act.put, gs, gd, ge]
           refine wpAnyH_take (i := 56) (v := undef) rfl (by kernel_rfl) (by kernel_rfl) (by kernel_rfl) (fun _ _ _ h => h) (Or.inr ⟨by rfl, rfl⟩) hHeld ?_
           try simp only [ga, gb, gc, Act.put, gs, gd, ge]
           refine wpAnyH_take (i := 57) (v := undef) rfl (by kernel_rfl) (by kernel_rfl) (by kernel_rfl) (fun _ _ _ h => h) (Or.inr ⟨by rfl, rfl⟩) hHeld ?_
           try simp only [ga, gb, gc, Act.put, gs, gd, ge]
           refine wpAnyH_take (i := 58) (v := undef) rfl (by kernel_rfl) (by kernel_rfl) (by kernel_rfl) (fun _ _ _ h => h) (Or.inr ⟨by rfl, rfl⟩) hHeld ?_
           try simp only [ga, gb, gc, Act.put, gs, gd, ge]
           refine wpAnyH_take (i := 59) (v := undef) rfl (by kernel_rfl) (by kernel_rfl) (by kernel_rfl) (fun _ _ _ h => h) (Or.inr ⟨by rfl, rfl⟩) hHeld ?_
           try simp only [ga, gb, gc, Act.put, gs, gd, ge]
           as_aux_lemma =>
            refine wpAnyH_take (i := 60) (v := undef) rfl (by kernel_rfl) (by kernel_rfl) (by kernel_rfl) (fun _ _ _ h => h) (Or.inr ⟨by rfl, rfl⟩) hHeld ?_
            try simp only [ga, gb, gc, Act.put, gs, gd, ge]
            refine wpAnyH_take (i := 61) (v := undef) rfl (by kernel_rfl) (by kernel_rfl) (by kernel_rfl) (fun _ _ _ h => h) (Or.inr ⟨by rfl, rfl⟩) hHeld ?_
            try simp only [ga, gb, gc, Act.put, gs, gd, ge]
            refine wpAnyH_take (i := 62) (v := undef) rfl (by kernel_rfl) (by kernel_rfl) (by kernel_rfl) (fun _ _ _ h => h) (Or.inr ⟨by rfl, rfl⟩) hHeld ?_
            try simp only [ga, gb, gc, Act.put, gs, gd, ge]
            refine wpAnyH_take (i := 63) (v := undef) rfl (by kernel_rfl) (by kernel_rfl) (by kernel_rfl) (fun _ _ _ h => h) (Or.inr ⟨by rfl, rfl⟩) hHeld ?_
            try simp only [ga, gb, gc, Act.put, gs, gd, ge]
            refine wpAnyH_take (i := 64) (v := undef) rfl (by kernel_rfl) (by kernel_rfl) (by kernel_rfl) (fun _ _ _ h => h) (Or.inr ⟨by rfl, rfl⟩) hHeld ?_
            try simp only [ga, gb, gc, Act.put, gs, gd, ge]
            refine wpAnyH_take (i := 65) (v := undef) rfl (by kernel_rfl) (by kernel_rfl) (by kernel_rfl) (fun _ _ _ h => h) (Or.inr ⟨by rfl, rfl⟩) hHeld ?_
            try simp only [ga, gb, gc, Act.put, gs, gd, ge]
            refine wpAnyH_take (i := 66) (v := undef) rfl (by kernel_rfl) (by kernel_rfl) (by kernel_rfl) (fun _ _ _ h => h) (Or.inr ⟨by rfl, rfl⟩) hHeld ?_
            try simp only [ga, gb, gc, Act.put, gs, gd, ge]
            refine wpAnyH_take (i := 67) (v := undef) rfl (by kernel_rfl) (by kernel_rfl) (by kernel_rfl) (fun _ _ _ h => h) (Or.inr ⟨by rfl, rfl⟩) hHeld ?_
            try simp only [ga, gb, gc, Act.put, gs, gd, ge]
            refine wpAnyH_take (i := 68) (v := undef) rfl (by kernel_rfl) (by kernel_rfl) (by kernel_rfl) (fun _ _ _ h => h) (Or.inr ⟨by rfl, rfl⟩) hHeld ?_
            try simp only [ga, gb, gc, Act.put, gs, gd, ge]
            refine wpAnyH_take (i := 69) (v := undef) rfl (by kernel_rfl) (by kernel_rfl) (by kernel_rfl) (fun _ _ _ h => h) (Or.inr ⟨by rfl, rfl⟩) hHeld ?_
            try simp only [ga, gb, gc, Act.put, gs, gd, ge]
            refine wpAnyH_take (i := 70) (v := undef) rfl (by kernel_rfl) (by kernel_rfl) (by kernel_rfl) (fun _ _ _ h => h) (Or.inr ⟨by rfl, rfl⟩) hHeld ?_
            try simp only [ga, gb, gc, Act.put, gs, gd, ge]
            refine wpAnyH_take (i := 71) (v := undef) rfl (by kernel_rfl) (by kernel_rfl) (by kernel_rfl) (fun _ _ _ h => h) (Or.inr ⟨by rfl, rfl⟩) hHeld ?_
            try simp only [ga, gb, gc, Act.put, gs, gd, ge]
            as_aux_lemma =>
             refine wpAnyH_take (i := 72) (v := undef) rfl (by kernel_rfl) (by kernel_rfl) (by kernel_rfl) (fun _ _ _ h => h) (Or.inr ⟨by rfl, rfl⟩) hHeld ?_
             try simp only [ga, gb, gc, Act.put, gs, gd, ge]
             refine wpAnyH_take (i := 73) (v := undef) rfl (by kernel_rfl) (by kernel_rfl) (by kernel_rfl) (fun _ _ _ h => h) (Or.inr ⟨by rfl, rfl⟩) hHeld ?_
             try simp only [ga, gb, gc, Act.put, gs, gd, ge]
             refine wpAnyH_take (i := 74) (v := undef) rfl (by kernel_rfl) (by kernel_rfl) (by kernel_rfl) (fun _ _ _ h => h) (Or.inr ⟨by rfl, rfl⟩) hHeld ?_
             try simp only [ga, gb, gc, Act.put, gs, gd, ge]
             refine wpAnyH_take (i := 75) (v := undef) rfl (by kernel_rfl) (by kernel_rfl) (by kernel_rfl) (fun _ _ _ h => h) (Or.inr ⟨by rfl, rfl⟩) hHeld ?_
             try simp only [ga, gb, gc, Act.put, gs, gd, ge]
             refine wpAnyH_take (i := 76) (v := undef) rfl (by kernel_rfl) (by kernel_rfl) (by kernel_rfl) (fun _ _ _ h => h) (Or.inr ⟨by rfl, rfl⟩) hHeld ?_
             try simp only [ga, gb, gc, Act.put, gs, gd, ge]
             refine wpAnyH_take (i := 77) (v := undef) rfl (by kernel_rfl) (by kernel_rfl) (by kernel_rfl) (fun _ _ _ h => h) (Or.inr ⟨by rfl, rfl⟩) hHeld ?_
             try simp only [ga, gb, gc, Act.put, gs, gd, ge]
             refine wpAnyH_take (i := 78) (v := undef) rfl (by kernel_rfl) (by kernel_rfl) (by kernel_rfl) (fun _ _ _ h => h) (Or.inr ⟨by rfl, rfl⟩) hHeld ?_
             try simp only [ga, gb, gc, Act.put, gs, gd, ge]
             refine wpAnyH_take (i := 79) (v := undef) rfl (by kernel_rfl) (by kernel_rfl) (by kernel_rfl) (fun _ _ _ h => h) (Or.inr ⟨by rfl, rfl⟩) hHeld ?_
             try simp only [ga, gb, gc, Act.put, gs, gd, ge]
             refine wpAnyH_take (i := 80) (v := undef) rfl (by kernel_rfl) (by kernel_rfl) (by kernel_rfl) (fun _ _ _ h => h) (Or.inr ⟨by rfl, rfl⟩) hHeld ?_
             try simp only [ga, gb, gc, Act.put, gs, gd, ge]
             refine wpAnyH_take (i := 81) (v := undef) rfl (by kernel_rfl) (by kernel_rfl) (by kernel_rfl) (fun _ _ _ h => h) (Or.inr ⟨by rfl, rfl⟩) hHeld ?_
             try simp only [ga, gb, gc, Act.put, gs, gd, ge]
             refine wpAnyH_take (i := 82) (v := undef) rfl (by kernel_rfl) (by kernel_rfl) (by kernel_rfl) (fun _ _ _ h => h) (Or.inr ⟨by rfl, rfl⟩) hHeld ?_
             try simp only [ga, gb, gc, Act.put, gs, gd, ge]
             refine wpAnyH_take (i := 83) (v := undef) rfl (by kernel_rfl) (by kernel_rfl) (by kernel_rfl) (fun _ _ _ h => h) (Or.inr ⟨by rfl, rfl⟩) hHeld ?_
             try simp only [ga, gb, gc, Act.put, gs, gd, ge]
             as_aux_lemma =>
              refine wpAnyH_take (i := 84) (v := undef) rfl (by kernel_rfl) (by kernel_rfl) (by kernel_rfl) (fun _ _ _ h => h) (Or.inr ⟨by rfl, rfl⟩) hHeld ?_
              try simp only [ga, gb, gc, Act.put, gs, gd, ge]
              refine wpAnyH_take (i := 85) (v := undef) rfl (by kernel_rfl) (by kernel_rfl) (by kernel_rfl) (fun _ _ _ h => h) (Or.inr ⟨by rfl, rfl⟩) hHeld ?_
              try simp only [ga, gb, gc, Act.put, gs, gd, ge]
              refine wpAnyH_take (i := 86) (v := ?_) rfl (by kernel_rfl) (by kernel_rfl) (by kernel_rfl) (fun _ _ _ h => h) (Or.inl ⟨by rfl, ?_⟩) hHeld ?_; rotate_left
              ·(intro wS hSw; (try dsimp only at hSw); (try go_split_ands); go_simp; try with_reducible rfl)
              try simp only [ga, gb, gc, Act.put, gs, gd, ge]
              refine wpAnyH_take (i := 87) (v := ?_) rfl (by kernel_rfl) (by kernel_rfl) (by kernel_rfl) (fun _ _ _ h => h) (Or.inl ⟨by rfl, ?_⟩) hHeld ?_; rotate_left
              ·(intro wS hSw; (try dsimp only at hSw); (try go_split_ands); go_simp; try with_reducible rfl)
              try simp only [ga, gb, gc, Act.put, gs, gd, ge]
              refine wpAnyH_done (by kernel_rfl) ?_ _
              go_wp2_with (fail)
              go_roundw
              case rel => exact ⟨0 + 1, by omega, by go_num, HBR.out.drew⟩
              case measure => simp [intOf]; omega
      ·subst hg1
       have hq0 : (0 : Int) ≤ (q : Int) := Int.natCast_nonneg q
       have hql : (q : Int) < (z0.length : Int) := Int.ofNat_lt.2 hq3
       have hql' : ¬ (z0.length : Int) ≤ (q : Int) := by omega
       have hpq' : ¬ (q : Int) ≤ (p : Int) := by omega
       have hqd1 : decide ((0 : Int) ≤ (q : Int)) = true := decide_eq_true hq0
       have hqd2 : decide ((z0.length : Int) ≤ (q : Int)) = false := decide_eq_false hql'
       have hqd3 : decide (z0.length ≤ q) = false := decide_eq_false (by omega)
       have hql3 : ¬ z0.length ≤ q := by omega
       have hqd4 : decide (q ≤ p) = false := decide_eq_false (by omega)
       have hql4 : ¬ q ≤ p := by omega
       have hqd5 : decide ((q : Int) ≤ (p : Int)) = false := decide_eq_false hpq'
       go_wp2_with (fail)
       refine wp_region_held_drew (S := fun W => W.cell? ⟨b, o + 1, none⟩ = some (.int .i64 (p : Int)) ∧ W.cell? ⟨b, o + 2, none⟩ = some (.int .i64 (q : Int)) ∧ W.cell? ⟨bh, oh' + p * 12 + 1, none⟩ = some (.bool false) ∧ W.cell? ⟨bh, oh' + q * 12 + 1, none⟩ = some (.bool true)) (by kernel_rfl) (by first | exact ⟨ca1, ca2, ea1, eq1⟩) (fun hHeld => ?_)
       refine wpAnyH_take (i := 0) (v := ?_) rfl (by kernel_rfl) (by kernel_rfl) (by kernel_rfl) (fun _ _ _ h => h) (Or.inl ⟨by rfl, ?_⟩) hHeld ?_; rotate_left
       ·(intro wS hSw; (try dsimp only at hSw); (try go_split_ands); go_simp; try with_reducible rfl)
       try simp only [ga, gb, gc, Act.put, gs, gd, ge]
       refine wpAnyH_take (i := 1) (v := ?_) rfl (by kernel_rfl) (by kernel_rfl) (by kernel_rfl) (fun _ _ _ h => h) (Or.inl ⟨by rfl, ?_⟩) hHeld ?_; rotate_left
       ·(intro wS hSw; (try dsimp only at hSw); (try go_split_ands); go_simp; try with_reducible rfl)
       try simp only [ga, gb, gc, Act.put, gs, gd, ge]
       refine wpAnyH_take (i := 2) (v := ?_) rfl (by kernel_rfl) (by kernel_rfl) (by kernel_rfl) (fun _ _ _ h => h) (Or.inl ⟨by rfl, ?_⟩) hHeld ?_; rotate_left
       ·(intro wS hSw; (try dsimp only at hSw); (try go_split_ands); go_simp; try with_reducible rfl)
       try simp only [ga, gb, gc, Act.put, gs, gd, ge]
       refine wpAnyH_take (i := 3) (v := ?_) rfl (by kernel_rfl) (by kernel_rfl) (by kernel_rfl) (fun _ _ _ h => h) (Or.inl ⟨by rfl, ?_⟩) hHeld ?_; rotate_left
       ·(intro wS hSw; (try dsimp only at hSw); (try go_split_ands); go_simp; try with_reducible rfl)
       try simp only [ga, gb, gc, Act.put, gs, gd, ge]
       refine wpAnyH_take (i := 4) (v := ?_) rfl (by kernel_rfl) (by kernel_rfl) (by kernel_rfl) (fun _ _ _ h => h) (Or.inl ⟨by rfl, ?_⟩) hHeld ?_; rotate_left
       ·(intro wS hSw; (try dsimp only at hSw); (try go_split_ands); go_simp; try with_reducible rfl)
       try simp only [ga, gb, gc, Act.put, gs, gd, ge]
       refine wpAnyH_take (i := 5) (v := ?_) rfl (by kernel_rfl) (by kernel_rfl) (by kernel_rfl) (fun _ _ _ h => h) (Or.inl ⟨by rfl, ?_⟩) hHeld ?_; rotate_left
       ·(intro wS hSw; (try dsimp only at hSw); (try go_split_ands); go_simp; try with_reducible rfl)
       try simp only [ga, gb, gc, Act.put, gs, gd, ge]
       refine wpAnyH_take (i := 6) (v := ?_) rfl (by kernel_rfl) (by kernel_rfl) (by kernel_rfl) (fun _ _ _ h => h) (Or.inl ⟨by rfl, ?_⟩) hHeld ?_; rotate_left
       ·(intro wS hSw; (try dsimp only at hSw); (try go_split_ands); go_simp; try with_reducible rfl)
       try simp only [ga, gb, gc, Act.put, gs, gd, ge]
       refine wpAnyH_take (i := 7) (v := ?_) rfl (by kernel_rfl) (by kernel_rfl) (by kernel_rfl) (fun _ _ _ h => h) (Or.inl ⟨by rfl, ?_⟩) hHeld ?_; rotate_left
       ·(intro wS hSw; (try dsimp only at hSw); (try go_split_ands); go_simp; try with_reducible rfl)
       try simp only [ga, gb, gc, Act.put, gs, gd, ge]
       refine wpAnyH_take (i := 8) (v := ?_) rfl (by kernel_rfl) (by kernel_rfl) (by kernel_rfl) (fun _ _ _ h => h) (Or.inl ⟨by rfl, ?_⟩) hHeld ?_; rotate_left
       ·(intro wS hSw; (try dsimp only at hSw); (try go_split_ands); go_simp; try with_reducible rfl)
       try simp only [ga, gb, gc, Act.put, gs, gd, ge]
       refine wpAnyH_take (i := 9) (v := ?_) rfl (by kernel_rfl) (by kernel_rfl) (by kernel_rfl) (fun _ _ _ h => h) (Or.inl ⟨by rfl, ?_⟩) hHeld ?_; rotate_left
       ·(intro wS hSw; (try dsimp only at hSw); (try go_split_ands); go_simp; try with_reducible rfl)
       try simp only [ga, gb, gc, Act.put, gs, gd, ge]
       refine wpAnyH_take (i := 10) (v := ?_) rfl (by kernel_rfl) (by kernel_rfl) (by kernel_rfl) (fun _ _ _ h => h) (Or.inl ⟨by rfl, ?_⟩) hHeld ?_; rotate_left
       ·(intro wS hSw; (try dsimp only at hSw); (try go_split_ands); go_simp; try with_reducible rfl)
       try simp only [ga, gb, gc, Act.put, gs, gd, ge]
       refine wpAnyH_take (i := 11) (v := ?_) rfl (by kernel_rfl) (by kernel_rfl) (by kernel_rfl) (fun _ _ _ h => h) (Or.inl ⟨by rfl, ?_⟩) hHeld ?_; rotate_left
       ·(intro wS hSw; (try dsimp only at hSw); (try go_split_ands); go_simp; try with_reducible rfl)
       try simp only [ga, gb, gc, Act.put, gs, gd, ge]
       as_aux_lemma =>
        refine wpAnyH_take (i := 12) (v := ?_) rfl (by kernel_rfl) (by kernel_rfl) (by kernel_rfl) (fun _ _ _ h => h) (Or.inl ⟨by rfl, ?_⟩) hHeld ?_; rotate_left
        ·(intro wS hSw; (try dsimp only at hSw); (try go_split_ands); go_simp; try with_reducible rfl)
        try simp only [ga, gb, gc, Act.put, gs, gd, ge]
        refine wpAnyH_take (i := 13) (v := ?_) rfl (by kernel_rfl) (by kernel_rfl) (by kernel_rfl) (fun _ _ _ h => h) (Or.inl ⟨by rfl, ?_⟩) hHeld ?_; rotate_left
        ·(intro wS hSw; (try dsimp only at hSw); (try go_split_ands); go_simp; try with_reducible rfl)
        try simp only [ga, gb, gc, Act.put, gs, gd, ge]
        refine wpAnyH_take (i := 14) (v := ?_) rfl (by kernel_rfl) (by kernel_rfl) (by kernel_rfl) (fun _ _ _ h => h) (Or.inl ⟨by rfl, ?_⟩) hHeld ?_; rotate_left
        ·(intro wS hSw; (try dsimp only at hSw); (try go_split_ands); go_simp; try with_reducible rfl)
        try simp only [ga, gb, gc, Act.put, gs, gd, ge]
        refine wpAnyH_take (i := 15) (v := ?_) rfl (by kernel_rfl) (by kernel_rfl) (by kernel_rfl) (fun _ _ _ h => h) (Or.inl ⟨by rfl, ?_⟩) hHeld ?_; rotate_left
        ·(intro wS hSw; (try dsimp only at hSw); (try go_split_ands); go_simp; try with_reducible rfl)
        try simp only [ga, gb, gc, Act.put, gs, gd, ge]
        refine wpAnyH_take (i := 16) (v := ?_) rfl (by kernel_rfl) (by kernel_rfl) (by kernel_rfl) (fun _ _ _ h => h) (Or.inl ⟨by rfl, ?_⟩) hHeld ?_; rotate_left
        ·(intro wS hSw; (try dsimp only at hSw); (try go_split_ands); go_simp; try with_reducible rfl)
        try simp only [ga, gb, gc, Act.put, gs, gd, ge]
        refine wpAnyH_take (i := 17) (v := ?_) rfl (by kernel_rfl) (by kernel_rfl) (by kernel_rfl) (fun _ _ _ h => h) (Or.inl ⟨by rfl, ?_⟩) hHeld ?_; rotate_left
        ·(intro wS hSw; (try dsimp only at hSw); (try go_split_ands); go_simp; try with_reducible rfl)
        try simp only [ga, gb, gc, Act.put, gs, gd, ge]
        refine wpAnyH_take (i := 18) (v := ?_) rfl (by kernel_rfl) (by kernel_rfl) (by kernel_rfl) (fun _ _ _ h => h) (Or.inl ⟨by rfl, ?_⟩) hHeld ?_; rotate_left
        ·(intro wS hSw; (try dsimp only at hSw); (try go_split_ands); go_simp; try with_reducible rfl)
        try simp only [ga, gb, gc, Act.put, gs, gd, ge]
        refine wpAnyH_take (i := 19) (v := ?_) rfl (by kernel_rfl) (by kernel_rfl) (by kernel_rfl) (fun _ _ _ h => h) (Or.inl ⟨by rfl, ?_⟩) hHeld ?_; rotate_left
        ·(intro wS hSw; (try dsimp only at hSw); (try go_split_ands); go_simp; try with_reducible rfl)
        try simp only [ga, gb, gc, Act.put, gs, gd, ge]
        refine wpAnyH_take (i := 20) (v := ?_) rfl (by kernel_rfl) (by kernel_rfl) (by kernel_rfl) (fun _ _ _ h => h) (Or.inl ⟨by rfl, ?_⟩) hHeld ?_; rotate_left
        ·(intro wS hSw; (try dsimp only at hSw); (try go_split_ands); go_simp; try with_reducible rfl)
        try simp only [ga, gb, gc, Act.put, gs, gd, ge]
        refine wpAnyH_take (i := 21) (v := ?_) rfl (by kernel_rfl) (by kernel_rfl) (by kernel_rfl) (fun _ _ _ h => h) (Or.inl ⟨by rfl, ?_⟩) hHeld ?_; rotate_left
        ·(intro wS hSw; (try dsimp only at hSw); (try go_split_ands); go_simp; try with_reducible rfl)
        try simp only [ga, gb, gc, Act.put, gs, gd, ge]
        refine wpAnyH_take (i := 22) (v := ?_) rfl (by kernel_rfl) (by kernel_rfl) (by kernel_rfl) (fun _ _ _ h => h) (Or.inl ⟨by rfl, ?_⟩) hHeld ?_; rotate_left
        ·(intro wS hSw; (try dsimp only at hSw); (try go_split_ands); go_simp; try with_reducible rfl)
        try simp only [ga, gb, gc, Act.put, gs, gd, ge]
        refine wpAnyH_take (i := 23) (v := ?_) rfl (by kernel_rfl) (by kernel_rfl) (by kernel_rfl) (fun _ _ _ h => h) (Or.inl ⟨by rfl, ?_⟩) hHeld ?_; rotate_left
        ·(intro wS hSw; (try dsimp only at hSw); (try go_split_ands); go_simp; try with_reducible rfl)
        try simp only [ga, gb, gc, Act.put, gs, gd, ge]
        as_aux_lemma =>
         refine wpAnyH_take (i := 24) (v := ?_) rfl (by kernel_rfl) (by kernel_rfl) (by kernel_rfl) (fun _ _ _ h => h) (Or.inl ⟨by rfl, ?_⟩) hHeld ?_; rotate_left
         ·(intro wS hSw; (try dsimp only at hSw); (try go_split_ands); go_simp; try with_reducible rfl)
         try simp only [ga, gb, gc, Act.put, gs, gd, ge]
         refine wpAnyH_take (i := 25) (v := ?_) rfl (by kernel_rfl) (by kernel_rfl) (by kernel_rfl) (fun _ _ _ h => h) (Or.inl ⟨by rfl, ?_⟩) hHeld ?_; rotate_left
         ·(intro wS hSw; (try dsimp only at hSw); (try go_split_ands); go_simp; try with_reducible rfl)
         try simp only [ga, gb, gc, Act.put, gs, gd, ge]
         refine wpAnyH_take (i := 26) (v := ?_) rfl (by kernel_rfl) (by kernel_rfl) (by kernel_rfl) (fun _ _ _ h => h) (Or.inl ⟨by rfl, ?_⟩) hHeld ?_; rotate_left
         ·(intro wS hSw; (try dsimp only at hSw); (try go_split_ands); go_simp; try with_reducible rfl)
         try simp only [ga, gb, gc, Act.put, gs, gd, ge]
         refine wpAnyH_take (i := 27) (v := ?_) rfl (by kernel_rfl) (by kernel_rfl) (by kernel_rfl) (fun _ _ _ h => h) (Or.inl ⟨by rfl, ?_⟩) hHeld ?_; rotate_left
         ·(intro wS hSw; (try dsimp only at hSw); (try go_split_ands); go_simp; try with_reducible rfl)
         try simp only [ga, gb, gc, Act.put, gs, gd, ge]
         refine wpAnyH_take (i := 28) (v := ?_) rfl (by kernel_rfl) (by kernel_rfl) (by kernel_rfl) (fun _ _ _ h => h) (Or.inl ⟨by rfl, ?_⟩) hHeld ?_; rotate_left
         ·(intro wS hSw; (try dsimp only at hSw); (try go_split_ands); go_simp; try with_reducible rfl)
         try simp only [ga, gb, gc, Act.put, gs, gd, ge]
         refine wpAnyH_take (i := 29) (v := ?_) rfl (by kernel_rfl) (by kernel_rfl) (by kernel_rfl) (fun _ _ _ h => h) (Or.inl ⟨by rfl, ?_⟩) hHeld ?_; rotate_left
         ·(intro wS hSw; (try dsimp only at hSw); (try go_split_ands); go_simp; try with_reducible rfl)
         try simp only [ga, gb, gc, Act.put, gs, gd, ge]
         refine wpAnyH_take (i := 30) (v := ?_) rfl (by kernel_rfl) (by kernel_rfl) (by kernel_rfl) (fun _ _ _ h => h) (Or.inl ⟨by rfl, ?_⟩) hHeld ?_; rotate_left
         ·(intro wS hSw; (try dsimp only at hSw); (try go_split_ands); go_simp; try with_reducible rfl)
         try simp only [ga, gb, gc, Act.put, gs, gd, ge]
         refine wpAnyH_take (i := 31) (v := undef) rfl (by kernel_rfl) (by kernel_rfl) (by kernel_rfl) (fun _ _ _ h => h) (Or.inr ⟨by rfl, rfl⟩) hHeld ?_
         try simp only [ga, gb, gc, Act.put, gs, gd, ge]
         refine wpAnyH_take (i := 32) (v := undef) rfl (by kernel_rfl) (by kernel_rfl) (by kernel_rfl) (fun _ _ _ h => h) (Or.inr ⟨by rfl, rfl⟩) hHeld ?_
         try simp only [ga, gb, gc, Act.put, gs, gd, ge]
         refine wpAnyH_take (i := 33) (v := undef) rfl (by kernel_rfl) (by kernel_rfl) (by kernel_rfl) (fun _ _ _ h => h) (Or.inr ⟨by rfl, rfl⟩) hHeld ?_
         try simp only [ga, gb, gc, Act.put, gs, gd, ge]
         refine wpAnyH_take (i := 34) (v := undef) rfl (by kernel_rfl) (by kernel_rfl) (by kernel_rfl) (fun _ _ _ h => h) (Or.inr ⟨by rfl, rfl⟩) hHeld ?_
         try simp only [ga, gb, gc, Act.put, gs, gd, ge]
         refine wpAnyH_take (i := 35) (v := undef) rfl (by kernel_rfl) (by kernel_rfl) (by kernel_rfl) (fun _ _ _ h => h) (Or.inr ⟨by rfl, rfl⟩) hHeld ?_
         try simp only [ga, gb, gc, Act.put, gs, gd, ge]
         as_aux_lemma =>
          refine wpAnyH_take (i := 36) (v := undef) rfl (by kernel_rfl) (by kernel_rfl) (by kernel_rfl) (fun _ _ _ h => h) (Or.inr ⟨by rfl, rfl⟩) hHeld ?_
          try simp only [ga, gb, gc, Act.put, gs, gd, ge]
          refine wpAnyH_take (i := 37) (v := undef) rfl (by kernel_rfl) (by kernel_rfl) (by kernel_rfl) (fun _ _ _ h => h) (Or.inr ⟨by rfl, rfl⟩) hHeld ?_
          try simp only [ga, gb, gc, Act.put, gs, gd, ge]
          refine wpAnyH_take (i := 38) (v := undef) rfl (by kernel_rfl) (by kernel_rfl) (by kernel_rfl) (fun _ _ _ h => h) (Or.inr ⟨by rfl, rfl⟩) hHeld ?_
          try simp only [ga, gb, gc, Act.put, gs, gd, ge]
          refine wpAnyH_take (i := 39) (v := undef) rfl (by kernel_rfl) (by kernel_rfl) (by kernel_rfl) (fun _ _ _ h => h) (Or.inr ⟨by rfl, rfl⟩) hHeld ?_
          try simp only [ga, gb, gc, Act.put, gs, gd, ge]
          refine wpAnyH_take (i := 40) (v := undef) rfl (by kernel_rfl) (by kernel_rfl) (by kernel_rfl) (fun _ _ _ h => h) (Or.inr ⟨by rfl, rfl⟩) hHeld ?_
          try simp only [ga, gb, gc, Act.put, gs, gd, ge]
          refine wpAnyH_take (i := 41) (v := undef) rfl (by kernel_rfl) (by kernel_rfl) (by kernel_rfl) (fun _ _ _ h => h) (Or.inr ⟨by rfl, rfl⟩) hHeld ?_
          try simp only [ga, gb, gc, Act.put, gs, gd, ge]
          refine wpAnyH_take (i := 42) (v := undef) rfl (by kernel_rfl) (by kernel_rfl) (by kernel_rfl) (fun _ _ _ h => h) (Or.inr ⟨by rfl, rfl⟩) hHeld ?_
          try simp only [ga, gb, gc, Act.put, gs, gd, ge]
          refine wpAnyH_take (i := 43) (v := ?_) rfl (by kernel_rfl) (by kernel_rfl) (by kernel_rfl) (fun _ _ _ h => h) (Or.inl ⟨by rfl, ?_⟩) hHeld ?_; rotate_left
          ·(intro wS hSw; (try dsimp only at hSw); (try go_split_ands); go_simp; try with_reducible rfl)
          try simp only [ga, gb, gc, Act.put, gs, gd, ge]
          refine wpAnyH_take (i := 44) (v := ?_) rfl (by kernel_rfl) (by kernel_rfl) (by kernel_rfl) (fun _ _ _ h => h) (Or.inl ⟨by rfl, ?_⟩) hHeld ?_; rotate_left
          ·(intro wS hSw; (try dsimp only at hSw); (try go_split_ands); go_simp; try with_reducible rfl)
          try simp only [ga, gb, gc, Act.put, gs, gd, ge]
          refine wpAnyH_take (i := 45) (v := ?_) rfl (by kernel_rfl) (by kernel_rfl) (by kernel_rfl) (fun _ _ _ h => h) (Or.inl ⟨by rfl, ?_⟩) hHeld ?_; rotate_left
          ·(intro wS hSw; (try dsimp only at hSw); (try go_split_ands); go_simp; try with_reducible rfl)
          try simp only [ga, gb, gc, Act.put, gs, gd, ge]
          refine wpAnyH_take (i := 46) (v := ?_) rfl (by kernel_rfl) (by kernel_rfl) (by kernel_rfl) (fun _ _ _ h => h) (Or.inl ⟨by rfl, ?_⟩) hHeld ?_; rotate_left
          ·(intro wS hSw; (try dsimp only at hSw); (try go_split_ands); go_simp; try with_reducible rfl)
          try simp only [ga, gb, gc, Act.put, gs, gd, ge]
          refine wpAnyH_take (i := 47) (v := ?_) rfl (by kernel_rfl) (by kernel_rfl) (by kernel_rfl) (fun _ _ _ h => h) (Or.inl ⟨by rfl, ?_⟩) hHeld ?_; rotate_left
          ·(intro wS hSw; (try dsimp only at hSw); (try go_split_ands); go_simp; try with_reducible rfl)
          try simp only [ga, gb, gc, Act.put, gs, gd, ge]
          as_aux_lemma =>
           refine wpAnyH_take (i := 48) (v := ?_) rfl (by kernel_rfl) (by kernel_rfl) (by kernel_rfl) (fun _ _ _ h => h) (Or.inl ⟨by rfl, ?_⟩) hHeld ?_; rotate_left
           ·(intro wS hSw; (try dsimp only at hSw); (try go_split_ands); go_simp; try with_reducible rfl)
           try simp only [ga, gb, gc, Act.put, gs, gd, ge]
           refine wpAnyH_take (i := 49) (v := ?_) rfl (by kernel_rfl) (by kernel_rfl) (by kernel_rfl) (fun _ _ _ h => h) (Or.inl ⟨by rfl, ?_⟩) hHeld ?_; rotate_left
           ·(intro wS hSw; (try dsimp only at hSw); (try go_split_ands); go_simp; try with_reducible rfl)
           try simp only [ga, gb, gc, Act.put, gs, gd, ge]
           refine wpAnyH_take (i := 50) (v := ?_) rfl (by kernel_rfl) (by kernel_rfl) (by kernel_rfl) (fun _ _ _ h => h) (Or.inl ⟨by rfl, ?_⟩) hHeld ?_; rotate_left
           ·(intro wS hSw; (try dsimp only at hSw); (try go_split_ands); go_simp; try with_reducible rfl)
           try simp only [ga, gb, gc, Act.put, gs, gd, ge]
           refine wpAnyH_take (i := 51) (v := ?_) rfl (by kernel_rfl) (by kernel_rfl) (by kernel_rfl) (fun _ _ _ h => h) (Or.inl ⟨by rfl, ?_⟩) hHeld ?_; rotate_left
           ·(intro wS hSw; (try dsimp only at hSw); (try go_split_ands); go_simp; try with_reducible rfl)
           try simp only [ga, gb, gc, Act.put, gs, gd, ge]
           refine wpAnyH_take (i := 52) (v := ?_) rfl (by kernel_rfl) (by kernel_rfl) (by kernel_rfl) (fun _ _ _ h => h) (Or.inl ⟨by rfl, ?_⟩) hHeld ?_; rotate_left
           ·(intro wS hSw; (try dsimp only at hSw); (try go_split_ands); go_simp; try with_reducible rfl)
           try simp only [ga, gb, gc, Act.put, gs, gd, ge]
           refine wpAnyH_take (i := 53) (v := ?_) rfl (by kernel_rfl) (by kernel_rfl) (by kernel_rfl) (fun _ _ _ h => h) (Or.inl ⟨by rfl, ?_⟩) hHeld ?_; rotate_left
           ·(intro wS hSw; (try dsimp only at hSw); (try go_split_ands); go_simp; try with_reducible rfl)
           try simp only [ga, gb, gc, Act.put, gs, gd, ge]
           refine wpAnyH_take (i := 54) (v := ?_) rfl (by kernel_rfl) (by kernel_rfl) (by kernel_rfl) (fun _ _ _ h => h) (Or.inl ⟨by rfl, ?_⟩) hHeld ?_; rotate_left
           ·(intro wS hSw; (try dsimp only at hSw); (try go_split_ands); go_simp; try with_reducible rfl)
           try simp only [ga, gb, gc, Act.put, gs, gd, ge]
           refine wpAnyH_take (i := 55) (v := ?_) rfl (by kernel_rfl) (by kernel_rfl) (by kernel_rfl) (fun _ _ _ h => h) (Or.inl ⟨by rfl, ?_⟩) hHeld ?_; rotate_left
           ·(intro wS hSw; (try dsimp only at hSw); (try go_split_ands); go_simp; try with_reducible rfl)
           try simp only [ga, gb, gc, Act.put, gs, gd, ge]
           refine wpAnyH_take (i := 56) (v := ?_) rfl (by kernel_rfl) (by kernel_rfl) (by kernel_rfl) (fun _ _ _ h => h) (Or.inl ⟨by rfl, ?_⟩) hHeld ?_; rotate_left
           ·(intro wS hSw; (try dsimp only at hSw); (try go_split_ands); go_simp; try with_reducible rfl)
           try simp only [ga, gb, gc, Act.put, gs, gd, ge]
           refine wpAnyH_take (i := 57) (v := ?_) rfl (by kernel_rfl) (by kernel_rfl) (by kernel_rfl) (fun _ _ _ h => h) (Or.inl ⟨by rfl, ?_⟩) hHeld ?_; rotate_left
           ·(intro wS hSw; (try dsimp only at hSw); (try go_split_ands); go_simp; try with_reducible rfl)
           try simp only [ga, gb, gc, Act.put, gs, gd, ge]
           refine wpAnyH_take (i := 58) (v := ?_) rfl (by kernel_rfl) (by kernel_rfl) (by kernel_rfl) (fun _ _ _ h => h) (Or.inl ⟨by rfl, ?_⟩) hHeld ?_; rotate_left
           ·(intro wS hSw; (try dsimp only at hSw); (try go_split_ands); go_simp; try with_reducible rfl)
           try simp only [ga, gb, gc, Act.put, gs, gd, ge]
           refine wpAnyH_take (i := 59) (v := ?_) rfl (by kernel_rfl) (by kernel_rfl) (by kernel_rfl) (fun _ _ _ h => h) (Or.inl ⟨by rfl, ?_⟩) hHeld ?_; rotate_left
           ·(intro wS hSw; (try dsimp only at hSw); (try go_split_ands); go_simp; try with_reducible rfl)
           try simp only [ga, gb, gc, Act.put, gs, gd, ge]
           as_aux_lemma =>
            refine wpAnyH_take (i := 60) (v := ?_) rfl (by kernel_rfl) (by kernel_rfl) (by kernel_rfl) (fun _ _ _ h => h) (Or.inl ⟨by rfl, ?_⟩) hHeld ?_; rotate_left
            ·(intro wS hSw; (try dsimp only at hSw); (try go_split_ands); go_simp; try with_reducible rfl)
            try simp only [ga, gb, gc, Act.put, gs, gd, ge]
            refine wpAnyH_take (i := 61) (v := ?_) rfl (by kernel_rfl) (by kernel_rfl) (by kernel_rfl) (fun _ _ _ h => h) (Or.inl ⟨by rfl, ?_⟩) hHeld ?_; rotate_left
            ·(intro wS hSw; (try dsimp only at hSw); (try go_split_ands); go_simp; try with_reducible rfl)
            try simp only [ga, gb, gc, Act.put, gs, gd, ge]
            refine wpAnyH_take (i := 62) (v := ?_) rfl (by kernel_rfl) (by kernel_rfl) (by kernel_rfl) (fun _ _ _ h => h) (Or.inl ⟨by rfl, ?_⟩) hHeld ?_; rotate_left
            ·(intro wS hSw; (try dsimp only at hSw); (try go_split_ands); go_simp; try with_reducible rfl)
            try simp only [ga, gb, gc, Act.put, gs, gd, ge]
            refine wpAnyH_take (i := 63) (v := ?_) rfl (by kernel_rfl) (by kernel_rfl) (by kernel_rfl) (fun _ _ _ h => h) (Or.inl ⟨by rfl, ?_⟩) hHeld ?_; rotate_left
            ·(intro wS hSw; (try dsimp only at hSw); (try go_split_ands); go_simp; try with_reducible rfl)
            try simp only [ga, gb, gc, Act.put, gs, gd, ge]
            refine wpAnyH_take (i := 64) (v := ?_) rfl (by kernel_rfl) (by kernel_rfl) (by kernel_rfl) (fun _ _ _ h => h) (Or.inl ⟨by rfl, ?_⟩) hHeld ?_; rotate_left
            ·(intro wS hSw; (try dsimp only at hSw); (try go_split_ands); go_simp; try with_reducible rfl)
            try simp only [ga, gb, gc, Act.put, gs, gd, ge]
            refine wpAnyH_take (i := 65) (v := ?_) rfl (by kernel_rfl) (by kernel_rfl) (by kernel_rfl) (fun _ _ _ h => h) (Or.inl ⟨by rfl, ?_⟩) hHeld ?_; rotate_left
            ·(intro wS hSw; (try dsimp only at hSw); (try go_split_ands); go_simp; try with_reducible rfl)
            try simp only [ga, gb, gc, Act.put, gs, gd, ge]
            refine wpAnyH_take (i := 66) (v := ?_) rfl (by kernel_rfl) (by kernel_rfl) (by kernel_rfl) (fun _ _ _ h => h) (Or.inl ⟨by rfl, ?_⟩) hHeld ?_; rotate_left
            ·(intro wS hSw; (try dsimp only at hSw); (try go_split_ands); go_simp; try with_reducible rfl)
            try simp only [ga, gb, gc, Act.put, gs, gd, ge]
            refine wpAnyH_take (i := 67) (v := ?_) rfl (by kernel_rfl) (by kernel_rfl) (by kernel_rfl) (fun _ _ _ h => h) (Or.inl ⟨by rfl, ?_⟩) hHeld ?_; rotate_left
            ·(intro wS hSw; (try dsimp only at hSw); (try go_split_ands); go_simp; try with_reducible rfl)
            try simp only [ga, gb, gc, Act.put, gs, gd, ge]
            refine wpAnyH_take (i := 68) (v := ?_) rfl (by kernel_rfl) (by kernel_rfl) (by kernel_rfl) (fun _ _ _ h => h) (Or.inl ⟨by rfl, ?_⟩) hHeld ?_; rotate_left
            ·(intro wS hSw; (try dsimp only at hSw); (try go_split_ands); go_simp; try with_reducible rfl)
            try simp only [ga, gb, gc, Act.put, gs, gd, ge]
            refine wpAnyH_take (i := 69) (v := ?_) rfl (by kernel_rfl) (by kernel_rfl) (by kernel_rfl) (fun _ _ _ h => h) (Or.inl ⟨by rfl, ?_⟩) hHeld ?_; rotate_left
            ·(intro wS hSw; (try dsimp only at hSw); (try go_split_ands); go_simp; try with_reducible rfl)
            try simp only [ga, gb, gc, Act.put, gs, gd, ge]
            refine wpAnyH_take (i := 70) (v := ?_) rfl (by kernel_rfl) (by kernel_rfl) (by kernel_rfl) (fun _ _ _ h => h) (Or.inl ⟨by rfl, ?_⟩) hHeld ?_; rotate_left
            ·(intro wS hSw; (try dsimp only at hSw); (try go_split_ands); go_simp; try with_reducible rfl)
            try simp only [ga, gb, gc, Act.put, gs, gd, ge]
            refine wpAnyH_take (i := 71) (v := ?_) rfl (by kernel_rfl) (by kernel_rfl) (by kernel_rfl) (fun _ _ _ h => h) (Or.inl ⟨by rfl, ?_⟩) hHeld ?_; rotate_left
            ·(intro wS hSw; (try dsimp only at hSw); (try go_split_ands); go_simp; try with_reducible rfl)
            try simp only [ga, gb, gc, Act.put, gs, gd, ge]
            as_aux_lemma =>
             refine wpAnyH_take (i := 72) (v := ?_) rfl (by kernel_rfl) (by kernel_rfl) (by kernel_rfl) (fun _ _ _ h => h) (Or.inl ⟨by rfl, ?_⟩) hHeld ?_; rotate_left
             ·(intro wS hSw; (try dsimp only at hSw); (try go_split_ands); go_simp; try with_reducible rfl)
             try simp only [ga, gb, gc, Act.put, gs, gd, ge]
             refine wpAnyH_take (i := 73) (v := ?_) rfl (by kernel_rfl) (by kernel_rfl) (by kernel_rfl) (fun _ _ _ h => h) (Or.inl ⟨by rfl, ?_⟩) hHeld ?_; rotate_left
             ·(intro wS hSw; (try dsimp only at hSw); (try go_split_ands); go_simp; try with_reducible rfl)
             try simp only [ga, gb, gc, Act.put, gs, gd, ge]
             refine wpAnyH_take (i := 74) (v := ?_) rfl (by kernel_rfl) (by kernel_rfl) (by kernel_rfl) (fun _ _ _ h => h) (Or.inl ⟨by rfl, ?_⟩) hHeld ?_; rotate_left
             ·(intro wS hSw; (try dsimp only at hSw); (try go_split_ands); go_simp; try with_reducible rfl)
             try simp only [ga, gb, gc, Act.put, gs, gd, ge]
             refine wpAnyH_take (i := 75) (v := ?_) rfl (by kernel_rfl) (by kernel_rfl) (by kernel_rfl) (fun _ _ _ h => h) (Or.inl ⟨by rfl, ?_⟩) hHeld ?_; rotate_left
             ·(intro wS hSw; (try dsimp only at hSw); (try go_split_ands); go_simp; try with_reducible rfl)
             try simp only [ga, gb, gc, Act.put, gs, gd, ge]
             refine wpAnyH_take (i := 76) (v := ?_) rfl (by kernel_rfl) (by kernel_rfl) (by kernel_rfl) (fun _ _ _ h => h) (Or.inl ⟨by rfl, ?_⟩) hHeld ?_; rotate_left
             ·(intro wS hSw; (try dsimp only at hSw); (try go_split_ands); go_simp; try with_reducible rfl)
             try simp only [ga, gb, gc, Act.put, gs, gd, ge]
             refine wpAnyH_take (i := 77) (v := ?_) rfl (by kernel_rfl) (by kernel_rfl) (by kernel_rfl) (fun _ _ _ h => h) (Or.inl ⟨by rfl, ?_⟩) hHeld ?_; rotate_left
             ·(intro wS hSw; (try dsimp only at hSw); (try go_split_ands); go_simp; try with_reducible rfl)
             try simp only [ga, gb, gc, Act.put, gs, gd, ge]
             refine wpAnyH_take (i := 78) (v := ?_) rfl (by kernel_rfl) (by kernel_rfl) (by kernel_rfl) (fun _ _ _ h => h) (Or.inl ⟨by rfl, ?_⟩) hHeld ?_; rotate_left
             ·(intro wS hSw; (try dsimp only at hSw); (try go_split_ands); go_simp; try with_reducible rfl)
             try simp only [ga, gb, gc, Act.put, gs, gd, ge]
             refine wpAnyH_take (i := 79) (v := ?_) rfl (by kernel_rfl) (by kernel_rfl) (by kernel_rfl) (fun _ _ _ h => h) (Or.inl ⟨by rfl, ?_⟩) hHeld ?_; rotate_left
             ·(intro wS hSw; (try dsimp only at hSw); (try go_split_ands); go_simp; try with_reducible rfl)
             try simp only [ga, gb, gc, Act.put, gs, gd, ge]
             refine wpAnyH_take (i := 80) (v := ?_) rfl (by kernel_rfl) (by kernel_rfl) (by kernel_rfl) (fun _ _ _ h => h) (Or.inl ⟨by rfl, ?_⟩) hHeld ?_; rotate_left
             ·(intro wS hSw; (try dsimp only at hSw); (try go_split_ands); go_simp; try with_reducible rfl)
             try simp only [ga, gb, gc, Act.put, gs, gd, ge]
             refine wpAnyH_take (i := 81) (v := ?_) rfl (by kernel_rfl) (by kernel_rfl) (by kernel_rfl) (fun _ _ _ h => h) (Or.inl ⟨by rfl, ?_⟩) hHeld ?_; rotate_left
             ·(intro wS hSw; (try dsimp only at hSw); (try go_split_ands); go_simp; try with_reducible rfl)
             try simp only [ga, gb, gc, Act.put, gs, gd, ge]
             refine wpAnyH_take (i := 82) (v := ?_) rfl (by kernel_rfl) (by kernel_rfl) (by kernel_rfl) (fun _ _ _ h => h) (Or.inl ⟨by rfl, ?_⟩) hHeld ?_; rotate_left
             ·(intro wS hSw; (try dsimp only at hSw); (try go_split_ands); go_simp; try with_reducible rfl)
             try simp only [ga, gb, gc, Act.put, gs, gd, ge]
             refine wpAnyH_take (i := 83) (v := ?_) rfl (by kernel_rfl) (by kernel_rfl) (by kernel_rfl) (fun _ _ _ h => h) (Or.inl ⟨by rfl, ?_⟩) hHeld ?_; rotate_left
             ·(intro wS hSw; (try dsimp only at hSw); (try go_split_ands); go_simp; try with_reducible rfl)
             try simp only [ga, gb, gc, Act.put, gs, gd, ge]
             as_aux_lemma =>
              refine wpAnyH_take (i := 84) (v := ?_) rfl (by kernel_rfl) (by kernel_rfl) (by kernel_rfl) (fun _ _ _ h => h) (Or.inl ⟨by rfl, ?_⟩) hHeld ?_; rotate_left
              ·(intro wS hSw; (try dsimp only at hSw); (try go_split_ands); go_simp; try with_reducible rfl)
              try simp only [ga, gb, gc, Act.put, gs, gd, ge]
              refine wpAnyH_take (i := 85) (v := ?_) rfl (by kernel_rfl) (by kernel_rfl) (by kernel_rfl) (fun _ _ _ h => h) (Or.inl ⟨by rfl, ?_⟩) hHeld ?_; rotate_left
              ·(intro wS hSw; (try dsimp only at hSw); (try go_split_ands); go_simp; try with_reducible rfl)
              try simp only [ga, gb, gc, Act.put, gs, gd, ge]
              refine wpAnyH_take (i := 86) (v := ?_) rfl (by kernel_rfl) (by kernel_rfl) (by kernel_rfl) (fun _ _ _ h => h) (Or.inl ⟨by rfl, ?_⟩) hHeld ?_; rotate_left
              ·(intro wS hSw; (try dsimp only at hSw); (try go_split_ands); go_simp; try with_reducible rfl)
              try simp only [ga, gb, gc, Act.put, gs, gd, ge]
              refine wpAnyH_take (i := 87) (v := ?_) rfl (by kernel_rfl) (by kernel_rfl) (by kernel_rfl) (fun _ _ _ h => h) (Or.inl ⟨by rfl, ?_⟩) hHeld ?_; rotate_left
              ·(intro wS hSw; (try dsimp only at hSw); (try go_split_ands); go_simp; try with_reducible rfl)
              try simp only [ga, gb, gc, Act.put, gs, gd, ge]
              refine wpAnyH_done (by kernel_rfl) ?_ _
              go_wp2_with (fail)
              go_roundw
              case rel => exact ⟨0 + 1, by omega, by go_num, HBR.out.drew⟩
              case measure => simp [intOf]; omega
     | succ m =>
      obtain ⟨d, hd⟩ : ∃ q, l[m]? = some q := ⟨_, List.getElem?_eq_getElem (by omega)⟩
      obtain ⟨b6, o6, pa6, pc6, hae, hcb⟩ := (HC.out.keep HZR.out).2.2 m d hd
      cases hae
      obtain ⟨-, da1, -⟩ := hcb.ex
      have hdp := HPV.out m d rfl hd
      have hdp' : ¬ (p : Int) ≤ d.f := by omega
      have hm0 : (0 : Int) ≤ (m : Int) := Int.natCast_nonneg m
      have hml : (m : Int) < (l.length : Int) := by omega
      clear hn0 hnl
      have hn0 : (0 : Int) ≤ (m : Int) + 1 := by omega
      have hnl : (m : Int) + 1 < (l.length : Int) := by omega
      have hm1 : (0 : Int) < (m : Int) + 1 := by omega
      have hm1d : decide ((0 : Int) < (m : Int) + 1) = true := decide_eq_true hm1
      have hdpd : decide ((p : Int) ≤ d.f) = false := decide_eq_false hdp'
      have hwm : wrap64 ((m : Int) + 1 - 1) = (m : Int) := by unfold wrap64; omega
      have hmt : ((m : Int) + 1).toNat = m + 1 := by omega
      have HWM := Lib.hid (show IntKind.i64.wrap (m : Int) = (m : Int) from (wrapEqP _).trans (by unfold wrap64; omega))
      clear hd hcb
      obtain ⟨dt, df, dg, do', dad⟩ := d
      dsimp only at da1 hdp hdp' hdpd
      rw [Int.natCast_add]
      rcases hgq with hg1 | ⟨q, hg1, hpq, hq3, -, -, eq1⟩
      ·subst hg1
       go_wp2_with (fail)
       have hwm4 := HWM.out
       refine wp_region_held_drew (S := fun W => W.cell? ⟨b, o + (m + 1) * 13 + 1, none⟩ = some (.int .i64 (p : Int)) ∧ W.cell? ⟨b, o + (m + 1) * 13 + 2, none⟩ = some (.int .i64 (-1)) ∧ W.cell? ⟨bh, oh' + p * 12 + 1, none⟩ = some (.bool false) ∧ W.cell? ⟨b, o + m * 13 + 1, none⟩ = some (.int .i64 df)) (by kernel_rfl) (by first | exact ⟨ca1, ca2, ea1, da1⟩) (fun hHeld => ?_)
       refine wpAnyH_take (i := 0) (v := ?_) rfl (by kernel_rfl) (by kernel_rfl) (by kernel_rfl) (fun _ _ _ h => h) (Or.inl ⟨by rfl, ?_⟩) hHeld ?_; rotate_left
       ·(intro wS hSw; (try dsimp only at hSw); (try go_split_ands); go_simp; try with_reducible rfl)
       try simp only [ga, gb, gc, Act.put, gs, gd, ge]
       refine wpAnyH_take (i := 1) (v := ?_) rfl (by kernel_rfl) (by kernel_rfl) (by kernel_rfl) (fun _ _ _ h => h) (Or.inl ⟨by rfl, ?_⟩) hHeld ?_; rotate_left
       ·(intro wS hSw; (try dsimp only at hSw); (try go_split_ands); go_simp; try with_reducible rfl)
       try simp only [ga, gb, gc, Act.put, gs, gd, ge]
       refine wpAnyH_take (i := 2) (v := ?_) rfl (by kernel_rfl) (by kernel_rfl) (by kernel_rfl) (fun _ _ _ h => h) (Or.inl ⟨by rfl, ?_⟩) hHeld ?_; rotate_left
       ·(intro wS hSw; (try dsimp only at hSw); (try go_split_ands); go_simp; try with_reducible rfl)
       try simp only [ga, gb, gc, Act.put, gs, gd, ge]
       refine wpAnyH_take (i := 3) (v := ?_) rfl (by kernel_rfl) (by kernel_rfl) (by kernel_rfl) (fun _ _ _ h => h) (Or.inl ⟨by rfl, ?_⟩) hHeld ?_; rotate_left
       ·(intro wS hSw; (try dsimp only at hSw); (try go_split_ands); go_simp; try with_reducible rfl)
       try simp only [ga, gb, gc, Act.put, gs, gd, ge]
       refine wpAnyH_take (i := 4) (v := ?_) rfl (by kernel_rfl) (by kernel_rfl) (by kernel_rfl) (fun _ _ _ h => h) (Or.inl ⟨by rfl, ?_⟩) hHeld ?_; rotate_left
       ·(intro wS hSw; (try dsimp only at hSw); (try go_split_ands); go_simp; try with_reducible rfl)
       try simp only [ga, gb, gc, Act.put, gs, gd, ge]
       refine wpAnyH_take (i := 5) (v := ?_) rfl (by kernel_rfl) (by kernel_rfl) (by kernel_rfl) (fun _ _ _ h => h) (Or.inl ⟨by rfl, ?_⟩) hHeld ?_; rotate_left
       ·(intro wS hSw; (try dsimp only at hSw); (try go_split_ands); go_simp; try with_reducible rfl)
       try simp only [ga, gb, gc, Act.put, gs, gd, ge]
       refine wpAnyH_take (i := 6) (v := ?_) rfl (by kernel_rfl) (by kernel_rfl) (by kernel_rfl) (fun _ _ _ h => h) (Or.inl ⟨by rfl, ?_⟩) hHeld ?_; rotate_left
       ·(intro wS hSw; (try dsimp only at hSw); (try go_split_ands); go_simp; try with_reducible rfl)
       try simp only [ga, gb, gc, Act.put, gs, gd, ge]
       refine wpAnyH_take (i := 7) (v := ?_) rfl (by kernel_rfl) (by kernel_rfl) (by kernel_rfl) (fun _ _ _ h => h) (Or.inl ⟨by rfl, ?_⟩) hHeld ?_; rotate_left
       ·(intro wS hSw; (try dsimp only at hSw); (try go_split_ands); go_simp; try with_reducible rfl)
       try simp only [ga, gb, gc, Act.put, gs, gd, ge]
       refine wpAnyH_take (i := 8) (v := ?_) rfl (by kernel_rfl) (by kernel_rfl) (by kernel_rfl) (fun _ _ _ h => h) (Or.inl ⟨by rfl, ?_⟩) hHeld ?_; rotate_left
       ·(intro wS hSw; (try dsimp only at hSw); (try go_split_ands); go_simp; try with_reducible rfl)
       try simp only [ga, gb, gc, Act.put, gs, gd, ge]
       refine wpAnyH_take (i := 9) (v := ?_) rfl (by kernel_rfl) (by kernel_rfl) (by kernel_rfl) (fun _ _ _ h => h) (Or.inl ⟨by rfl, ?_⟩) hHeld ?_; rotate_left
       ·(intro wS hSw; (try dsimp only at hSw); (try go_split_ands); go_simp; try with_reducible rfl)
       try simp only [ga, gb, gc, Act.put, gs, gd, ge]
       refine wpAnyH_take (i := 10) (v := ?_) rfl (by kernel_rfl) (by kernel_rfl) (by kernel_rfl) (fun _ _ _ h => h) (Or.inl ⟨by rfl, ?_⟩) hHeld ?_; rotate_left
       ·(intro wS hSw; (try dsimp only at hSw); (try go_split_ands); go_simp; try with_reducible rfl)
       try simp only [ga, gb, gc, Act.put, gs, gd, ge]
       refine wpAnyH_take (i := 11) (v := ?_) rfl (by kernel_rfl) (by kernel_rfl) (by kernel_rfl) (fun _ _ _ h => h) (Or.inl ⟨by rfl, ?_⟩) hHeld ?_; rotate_left
       ·(intro wS hSw; (try dsimp only at hSw); (try go_split_ands); go_simp; try with_reducible rfl)
       try simp only [ga, gb, gc, Act.put, gs, gd, ge]
       as_aux_lemma =>
        refine wpAnyH_take (i := 12) (v := ?_) rfl (by kernel_rfl) (by kernel_rfl) (by kernel_rfl) (fun _ _ _ h => h) (Or.inl ⟨by rfl, ?_⟩) hHeld ?_; rotate_left
        ·(intro wS hSw; (try dsimp only at hSw); (try go_split_ands); go_simp; try with_reducible rfl)
        try simp only [ga, gb, gc, Act.put, gs, gd, ge]
        refine wpAnyH_take (i := 13) (v := ?_) rfl (by kernel_rfl) (by kernel_rfl) (by kernel_rfl) (fun _ _ _ h => h) (Or.inl ⟨by rfl, ?_⟩) hHeld ?_; rotate_left
        ·(intro wS hSw; (try dsimp only at hSw); (try go_split_ands); go_simp; try with_reducible rfl)
        try simp only [ga, gb, gc, Act.put, gs, gd, ge]
        refine wpAnyH_take (i := 14) (v := ?_) rfl (by kernel_rfl) (by kernel_rfl) (by kernel_rfl) (fun _ _ _ h => h) (Or.inl ⟨by rfl, ?_⟩) hHeld ?_; rotate_left
        ·(intro wS hSw; (try dsimp only at hSw); (try go_split_ands); go_simp; try with_reducible rfl)
        try simp only [ga, gb, gc, Act.put, gs, gd, ge]
        refine wpAnyH_take (i := 15) (v := ?_) rfl (by kernel_rfl) (by kernel_rfl) (by kernel_rfl) (fun _ _ _ h => h) (Or.inl ⟨by rfl, ?_⟩) hHeld ?_; rotate_left
        ·(intro wS hSw; (try dsimp only at hSw); (try go_split_ands); go_simp; try with_reducible rfl)
        try simp only [ga, gb, gc, Act.put, gs, gd, ge]
        refine wpAnyH_take (i := 16) (v := ?_) rfl (by kernel_rfl) (by kernel_rfl) (by kernel_rfl) (fun _ _ _ h => h) (Or.inl ⟨by rfl, ?_⟩) hHeld ?_; rotate_left
        ·(intro wS hSw; (try dsimp only at hSw); (try go_split_ands); go_simp; try with_reducible rfl)
        try simp only [ga, gb, gc, Act.put, gs, gd, ge]
        refine wpAnyH_take (i := 17) (v := ?_) rfl (by kernel_rfl) (by kernel_rfl) (by kernel_rfl) (fun _ _ _ h => h) (Or.inl ⟨by rfl, ?_⟩) hHeld ?_; rotate_left
        ·(intro wS hSw; (try dsimp only at hSw); (try go_split_ands); go_simp; try with_reducible rfl)
        try simp only [ga, gb, gc, Act.put, gs, gd, ge]
        refine wpAnyH_take (i := 18) (v := ?_) rfl (by kernel_rfl) (by kernel_rfl) (by kernel_rfl) (fun _ _ _ h => h) (Or.inl ⟨by rfl, ?_⟩) hHeld ?_; rotate_left
        ·(intro wS hSw; (try dsimp only at hSw); (try go_split_ands); go_simp; try with_reducible rfl)
        try simp only [ga, gb, gc, Act.put, gs, gd, ge]
        refine wpAnyH_take (i := 19) (v := ?_) rfl (by kernel_rfl) (by kernel_rfl) (by kernel_rfl) (fun _ _ _ h => h) (Or.inl ⟨by rfl, ?_⟩) hHeld ?_; rotate_left
        ·(intro wS hSw; (try dsimp only at hSw); (try go_split_ands); go_simp; try with_reducible rfl)
        try simp only [ga, gb, gc, Act.put, gs, gd, ge]
        refine wpAnyH_take (i := 20) (v := ?_) rfl (by kernel_rfl) (by kernel_rfl) (by kernel_rfl) (fun _ _ _ h => h) (Or.inl ⟨by rfl, ?_⟩) hHeld ?_; rotate_left
        ·(intro wS hSw; (try dsimp only at hSw); (try go_split_ands); go_simp; try with_reducible rfl)
        try simp only [ga, gb, gc, Act.put, gs, gd, ge]
        refine wpAnyH_take (i := 21) (v := ?_) rfl (by kernel_rfl) (by kernel_rfl) (by kernel_rfl) (fun _ _ _ h => h) (Or.inl ⟨by rfl, ?_⟩) hHeld ?_; rotate_left
        ·(intro wS hSw; (try dsimp only at hSw); (try go_split_ands); go_simp; try with_reducible rfl)
        try simp only [ga, gb, gc, Act.put, gs, gd, ge]
        refine wpAnyH_take (i := 22) (v := ?_) rfl (by kernel_rfl) (by kernel_rfl) (by kernel_rfl) (fun _ _ _ h => h) (Or.inl ⟨by rfl, ?_⟩) hHeld ?_; rotate_left
        ·(intro wS hSw; (try dsimp only at hSw); (try go_split_ands); go_simp; try with_reducible rfl)
        try simp only [ga, gb, gc, Act.put, gs, gd, ge]
        refine wpAnyH_take (i := 23) (v := ?_) rfl (by kernel_rfl) (by kernel_rfl) (by kernel_rfl) (fun _ _ _ h => h) (Or.inl ⟨by rfl, ?_⟩) hHeld ?_; rotate_left
        ·(intro wS hSw; (try dsimp only at hSw); (try go_split_ands); go_simp; try with_reducible rfl)
        try simp only [ga, gb, gc, Act.put, gs, gd, ge]
        as_aux_lemma =>
         refine wpAnyH_take (i := 24) (v := ?_) rfl (by kernel_rfl) (by kernel_rfl) (by kernel_rfl) (fun _ _ _ h => h) (Or.inl ⟨by rfl, ?_⟩) hHeld ?_; rotate_left
         ·(intro wS hSw; (try dsimp only at hSw); (try go_split_ands); go_simp; try with_reducible rfl)
         try simp only [ga, gb, gc, Act.put, gs, gd, ge]
         refine wpAnyH_take (i := 25) (v := ?_) rfl (by kernel_rfl) (by kernel_rfl) (by kernel_rfl) (fun _ _ _ h => h) (Or.inl ⟨by rfl, ?_⟩) hHeld ?_; rotate_left
         ·(intro wS hSw; (try dsimp only at hSw); (try go_split_ands); go_simp; try with_reducible rfl)
         try simp only [ga, gb, gc, Act.put, gs, gd, ge]
         refine wpAnyH_take (i := 26) (v := ?_) rfl (by kernel_rfl) (by kernel_rfl) (by kernel_rfl) (fun _ _ _ h => h) (Or.inl ⟨by rfl, ?_⟩) hHeld ?_; rotate_left
         ·(intro wS hSw; (try dsimp only at hSw); (try go_split_ands); go_simp; try with_reducible rfl)
         try simp only [ga, gb, gc, Act.put, gs, gd, ge]
         refine wpAnyH_take (i := 27) (v := ?_) rfl (by kernel_rfl) (by kernel_rfl) (by kernel_rfl) (fun _ _ _ h => h) (Or.inl ⟨by rfl, ?_⟩) hHeld ?_; rotate_left
         ·(intro wS hSw; (try dsimp only at hSw); (try go_split_ands); go_simp; try with_reducible rfl)
         try simp only [ga, gb, gc, Act.put, gs, gd, ge]
         refine wpAnyH_take (i := 28) (v := ?_) rfl (by kernel_rfl) (by kernel_rfl) (by kernel_rfl) (fun _ _ _ h => h) (Or.inl ⟨by rfl, ?_⟩) hHeld ?_; rotate_left
         ·(intro wS hSw; (try dsimp only at hSw); (try go_split_ands); go_simp; try with_reducible rfl)
         try simp only [ga, gb, gc, Act.put, gs, gd, ge]
         refine wpAnyH_take (i := 29) (v := ?_) rfl (by kernel_rfl) (by kernel_rfl) (by kernel_rfl) (fun _ _ _ h => h) (Or.inl ⟨by rfl, ?_⟩) hHeld ?_; rotate_left
         ·(intro wS hSw; (try dsimp only at hSw); (try go_split_ands); go_simp; try with_reducible rfl)
         try simp only [ga, gb, gc, Act.put, gs, gd, ge]
         refine wpAnyH_take (i := 30) (v := ?_) rfl (by kernel_rfl) (by kernel_rfl) (by kernel_rfl) (fun _ _ _ h => h) (Or.inl ⟨by rfl, ?_⟩) hHeld ?_; rotate_left
         ·(intro wS hSw; (try dsimp only at hSw); (try go_split_ands); go_simp; try with_reducible rfl)
         try simp only [ga, gb, gc, Act.put, gs, gd, ge]
         refine wpAnyH_take (i := 31) (v := ?_) rfl (by kernel_rfl) (by kernel_rfl) (by kernel_rfl) (fun _ _ _ h => h) (Or.inl ⟨by rfl, ?_⟩) hHeld ?_; rotate_left
         ·(intro wS hSw; (try dsimp only at hSw); (try go_split_ands); go_simp; try with_reducible rfl)
         try simp only [ga, gb, gc, Act.put, gs, gd, ge]
         refine wpAnyH_take (i := 32) (v := ?_) rfl (by kernel_rfl) (by kernel_rfl) (by kernel_rfl) (fun _ _ _ h => h) (Or.inl ⟨by rfl, ?_⟩) hHeld ?_; rotate_left
         ·(intro wS hSw; (try dsimp only at hSw); (try go_split_ands); go_simp; try with_reducible rfl)
         try simp only [ga, gb, gc, Act.put, gs, gd, ge]
         refine wpAnyH_take (i := 33) (v := ?_) rfl (by kernel_rfl) (by kernel_rfl) (by kernel_rfl) (fun _ _ _ h => h) (Or.inl ⟨by rfl, ?_⟩) hHeld ?_; rotate_left
         ·(intro wS hSw; (try dsimp only at hSw); (try go_split_ands); go_simp; try with_reducible rfl)
         try simp only [ga, gb, gc, Act.put, gs, gd, ge]
         refine wpAnyH_take (i := 34) (v := ?_) rfl (by kernel_rfl) (by kernel_rfl) (by kernel_rfl) (fun _ _ _ h => h) (Or.inl ⟨by rfl, ?_⟩) hHeld ?_; rotate_left
         ·(intro wS hSw; (try dsimp only at hSw); (try go_split_ands); go_simp; try with_reducible rfl)
         try simp only [ga, gb, gc, Act.put, gs, gd, ge]
         refine wpAnyH_take (i := 35) (v := ?_) rfl (by kernel_rfl) (by kernel_rfl) (by kernel_rfl) (fun _ _ _ h => h) (Or.inl ⟨by rfl, ?_⟩) hHeld ?_; rotate_left
         ·(intro wS hSw; (try dsimp only at hSw); (try go_split_ands); go_simp; try with_reducible rfl)
         try simp only [ga, gb, gc, Act.put, gs, gd, ge]
         as_aux_lemma =>
          refine wpAnyH_take (i := 36) (v := ?_) rfl (by kernel_rfl) (by kernel_rfl) (by kernel_rfl) (fun _ _ _ h => h) (Or.inl ⟨by rfl, ?_⟩) hHeld ?_; rotate_left
          ·(intro wS hSw; (try dsimp only at hSw); (try go_split_ands); go_simp; try with_reducible rfl)
          try simp only [ga, gb, gc, Act.put, gs, gd, ge]
          refine wpAnyH_take (i := 37) (v := ?_) rfl (by kernel_rfl) (by kernel_rfl) (by kernel_rfl) (fun _ _ _ h => h) (Or.inl ⟨by rfl, ?_⟩) hHeld ?_; rotate_left
          ·(intro wS hSw; (try dsimp only at hSw); (try go_split_ands); go_simp; try with_reducible rfl)
          try simp only [ga, gb, gc, Act.put, gs, gd, ge]
          refine wpAnyH_take (i := 38) (v := ?_) rfl (by kernel_rfl) (by kernel_rfl) (by kernel_rfl) (fun _ _ _ h => h) (Or.inl ⟨by rfl, ?_⟩) hHeld ?_; rotate_left
          ·(intro wS hSw; (try dsimp only at hSw); (try go_split_ands); go_simp; try with_reducible rfl)
          try simp only [ga, gb, gc, Act.put, gs, gd, ge]
          refine wpAnyH_take (i := 39) (v := ?_) rfl (by kernel_rfl) (by kernel_rfl) (by kernel_rfl) (fun _ _ _ h => h) (Or.inl ⟨by rfl, ?_⟩) hHeld ?_; rotate_left
          ·(intro wS hSw; (try dsimp only at hSw); (try go_split_ands); go_simp; try with_reducible rfl)
          try simp only [ga, gb, gc, Act.put, gs, gd, ge]
          refine wpAnyH_take (i := 40) (v := ?_) rfl (by kernel_rfl) (by kernel_rfl) (by kernel_rfl) (fun _ _ _ h => h) (Or.inl ⟨by rfl, ?_⟩) hHeld ?_; rotate_left
          ·(intro wS hSw; (try dsimp only at hSw); (try go_split_ands); go_simp; try with_reducible rfl)
          try simp only [ga, gb, gc, Act.put, gs, gd, ge]
          refine wpAnyH_take (i := 41) (v := ?_) rfl (by kernel_rfl) (by kernel_rfl) (by kernel_rfl) (fun _ _ _ h => h) (Or.inl ⟨by rfl, ?_⟩) hHeld ?_; rotate_left
          ·(intro wS hSw; (try dsimp only at hSw); (try go_split_ands); go_simp; try with_reducible rfl)
          try simp only [ga, gb, gc, Act.put, gs, gd, ge]
          refine wpAnyH_take (i := 42) (v := ?_) rfl (by kernel_rfl) (by kernel_rfl) (by kernel_rfl) (fun _ _ _ h => h) (Or.inl ⟨by rfl, ?_⟩) hHeld ?_; rotate_left
          ·(intro wS hSw; (try dsimp only at hSw); (try go_split_ands); go_simp; try with_reducible rfl)
          try simp only [ga, gb, gc, Act.put, gs, gd, ge]
          refine wpAnyH_take (i := 43) (v := ?_) rfl (by kernel_rfl) (by kernel_rfl) (by kernel_rfl) (fun _ _ _ h => h) (Or.inl ⟨by rfl, ?_⟩) hHeld ?_; rotate_left
          ·(intro wS hSw; (try dsimp only at hSw); (try go_split_ands); go_simp; try with_reducible rfl)
          try simp only [ga, gb, gc, Act.put, gs, gd, ge]
          refine wpAnyH_take (i := 44) (v := ?_) rfl (by kernel_rfl) (by kernel_rfl) (by kernel_rfl) (fun _ _ _ h => h) (Or.inl ⟨by rfl, ?_⟩) hHeld ?_; rotate_left
          ·(intro wS hSw; (try dsimp only at hSw); (try go_split_ands); go_simp; try with_reducible rfl)
          try simp only [ga, gb, gc, Act.put, gs, gd, ge]
          refine wpAnyH_take (i := 45) (v := ?_) rfl (by kernel_rfl) (by kernel_rfl) (by kernel_rfl) (fun _ _ _ h => h) (Or.inl ⟨by rfl, ?_⟩) hHeld ?_; rotate_left
          ·(intro wS hSw; (try dsimp only at hSw); (try go_split_ands); go_simp; try with_reducible rfl)
          try simp only [ga, gb, gc, Act.put, gs, gd, ge]
          refine wpAnyH_take (i := 46) (v := ?_) rfl (by kernel_rfl) (by kernel_rfl) (by kernel_rfl) (fun _ _ _ h => h) (Or.inl ⟨by rfl, ?_⟩) hHeld ?_; rotate_left
          ·(intro wS hSw; (try dsimp only at hSw); (try go_split_ands); go_simp; try with_reducible rfl)
          try simp only [ga, gb, gc, Act.put, gs, gd, ge]
          refine wpAnyH_take (i := 47) (v := ?_) rfl (by kernel_rfl) (by kernel_rfl) (by kernel_rfl) (fun _ _ _ h => h) (Or.inl ⟨by rfl, ?_⟩) hHeld ?_; rotate_left
          ·(intro wS hSw; (try dsimp only at hSw); (try go_split_ands); go_simp; try with_reducible rfl)
          try simp only [ga, gb, gc, Act.put, gs, gd, ge]
          as_aux_lemma =>
           refine wpAnyH_take (i := 48) (v := ?_) rfl (by kernel_rfl) (by kernel_rfl) (by kernel_rfl) (fun _ _ _ h => h) (Or.inl ⟨by rfl, ?_⟩) hHeld ?_; rotate_left
           ·(intro wS hSw; (try dsimp only at hSw); (try go_split_ands); go_simp; try with_reducible rfl)
           try simp only [ga, gb, gc, Act.put, gs, gd, ge]
           refine wpAnyH_take (i := 49) (v := ?_) rfl (by kernel_rfl) (by kernel_rfl) (by kernel_rfl) (fun _ _ _ h => h) (Or.inl ⟨by rfl, ?_⟩) hHeld ?_; rotate_left
           ·(intro wS hSw; (try dsimp only at hSw); (try go_split_ands); go_simp; try with_reducible rfl)
           try simp only [ga, gb, gc, Act.put, gs, gd, ge]
           refine wpAnyH_take (i := 50) (v := ?_) rfl (by kernel_rfl) (by kernel_rfl) (by kernel_rfl) (fun _ _ _ h => h) (Or.inl ⟨by rfl, ?_⟩) hHeld ?_; rotate_left
           ·(intro wS hSw; (try dsimp only at hSw); (try go_split_ands); go_simp; try with_reducible rfl)
           try simp only [ga, gb, gc, Act.put, gs, gd, ge]
           refine wpAnyH_take (i := 51) (v := ?_) rfl (by kernel_rfl) (by kernel_rfl) (by kernel_rfl) (fun _ _ _ h => h) (Or.inl ⟨by rfl, ?_⟩) hHeld ?_; rotate_left
           ·(intro wS hSw; (try dsimp only at hSw); (try go_split_ands); go_simp; try with_reducible rfl)
           try simp only [ga, gb, gc, Act.put, gs, gd, ge]
           refine wpAnyH_take (i := 52) (v := ?_) rfl (by kernel_rfl) (by kernel_rfl) (by kernel_rfl) (fun _ _ _ h => h) (Or.inl ⟨by rfl, ?_⟩) hHeld ?_; rotate_left
           ·(intro wS hSw; (try dsimp only at hSw); (try go_split_ands); go_simp; try with_reducible rfl)
           try simp only [ga, gb, gc, Act.put, gs, gd, ge]
           refine wpAnyH_take (i := 53) (v := undef) rfl (by kernel_rfl) (by kernel_rfl) (by kernel_rfl) (fun _ _ _ h => h) (Or.inr ⟨by rfl, rfl⟩) hHeld ?_
           try simp only [ga, gb, gc, Act.put, gs, gd, ge]
           refine wpAnyH_take (i := 54) (v := undef) rfl (by kernel_rfl) (by kernel_rfl) (by kernel_rfl) (fun _ _ _ h => h) (Or.inr ⟨by rfl, rfl⟩) hHeld ?_
           try simp only [ga, gb, gc, Act.put, gs, gd, ge]
           refine wpAnyH_take (i := 55) (v := undef) rfl (by kernel_rfl) (by kernel_rfl) (by kernel_rfl) (fun _ _ _ h => h) (Or.inr ⟨by rfl, rfl⟩) hHeld ?_
           try simp only [ga, gb, gc, Act.put, gs, gd, ge]
           refine wpAnyH_take (i := 56) (v := undef) rfl (by kernel_rfl) (by kernel_rfl) (by kernel_rfl) (fun _ _ _ h => h) (Or.inr ⟨by rfl, rfl⟩) hHeld ?_
           try simp only [ga, gb, gc, Act.put, gs, gd, ge]
           refine wpAnyH_take (i := 57) (v := undef) rfl (by kernel_rfl) (by kernel_rfl) (by kernel_rfl) (fun _ _ _ h => h) (Or.inr ⟨by rfl, rfl⟩) hHeld ?_
           try simp only [ga, gb, gc, Act.put, gs, gd, ge]
           refine wpAnyH_take (i := 58) (v := undef) rfl (by kernel_rfl) (by kernel_rfl) (by kernel_rfl) (fun _ _ _ h => h) (Or.inr ⟨by rfl, rfl⟩) hHeld ?_
           try simp only [ga, gb, gc, Act.put, gs, gd, ge]
           refine wpAnyH_take (i := 59) (v := undef) rfl (by kernel_rfl) (by kernel_rfl) (by kernel_rfl) (fun _ _ _ h => h) (Or.inr ⟨by rfl, rfl⟩) hHeld ?_
           try simp only [ga, gb, gc, Act.put, gs, gd, ge]
           as_aux_lemma =>
            refine wpAnyH_take (i := 60) (v := undef) rfl (by kernel_rfl) (by kernel_rfl) (by kernel_rfl) (fun _ _ _ h => h) (Or.inr ⟨by rfl, rfl⟩) hHeld ?_
            try simp only [ga, gb, gc, Act.put, gs, gd, ge]
            refine wpAnyH_take (i := 61) (v := undef) rfl (by kernel_rfl) (by kernel_rfl) (by kernel_rfl) (fun _ _ _ h => h) (Or.inr ⟨by rfl, rfl⟩) hHeld ?_
            try simp only [ga, gb, gc, Act.put, gs, gd, ge]
            refine wpAnyH_take (i := 62) (v := undef) rfl (by kernel_rfl) (by kernel_rfl) (by kernel_rfl) (fun _ _ _ h => h) (Or.inr ⟨by rfl, rfl⟩) hHeld ?_
            try simp only [ga, gb, gc, Act.put, gs, gd, ge]
            refine wpAnyH_take (i := 63) (v := undef) rfl (by kernel_rfl) (by kernel_rfl) (by kernel_rfl) (fun _ _ _ h => h) (Or.inr ⟨by rfl, rfl⟩) hHeld ?_
            try simp only [ga, gb, gc, Act.put, gs, gd, ge]
            refine wpAnyH_take (i := 64) (v := undef) rfl (by kernel_rfl) (by kernel_rfl) (by kernel_rfl) (fun _ _ _ h => h) (Or.inr ⟨by rfl, rfl⟩) hHeld ?_
            try simp only [ga, gb, gc, Act.put, gs, gd, ge]
            refine wpAnyH_take (i := 65) (v := undef) rfl (by kernel_rfl) (by kernel_rfl) (by kernel_rfl) (fun _ _ _ h => h) (Or.inr ⟨by rfl, rfl⟩) hHeld ?_
            try simp only [ga, gb, gc, Act.put, gs, gd, ge]
            refine wpAnyH_take (i := 66) (v := undef) rfl (by kernel_rfl) (by kernel_rfl) (by kernel_rfl) (fun _ _ _ h => h) (Or.inr ⟨by rfl, rfl⟩) hHeld ?_
            try simp only [ga, gb, gc, Act.put, gs, gd, ge]
            refine wpAnyH_take (i := 67) (v := undef) rfl (by kernel_rfl) (by kernel_rfl) (by kernel_rfl) (fun _ _ _ h => h) (Or.inr ⟨by rfl, rfl⟩) hHeld ?_
            try simp only [ga, gb, gc, Act.put, gs, gd, ge]
            refine wpAnyH_take (i := 68) (v := undef) rfl (by kernel_rfl) (by kernel_rfl) (by kernel_rfl) (fun _ _ _ h => h) (Or.inr ⟨by rfl, rfl⟩) hHeld ?_
            try simp only [ga, gb, gc, Act.put, gs, gd, ge]
            refine wpAnyH_take (i := 69) (v := undef) rfl (by kernel_rfl) (by kernel_rfl) (by kernel_rfl) (fun _ _ _ h => h) (Or.inr ⟨by rfl, rfl⟩) hHeld ?_
            try simp only [ga, gb, gc, Act.put, gs, gd, ge]
            refine wpAnyH_take (i := 70) (v := undef) rfl (by kernel_rfl) (by kernel_rfl) (by kernel_rfl) (fun _ _ _ h => h) (Or.inr ⟨by rfl, rfl⟩) hHeld ?_
            try simp only [ga, gb, gc, Act.put, gs, gd, ge]
            refine wpAnyH_take (i := 71) (v := undef) rfl (by kernel_rfl) (by kernel_rfl) (by kernel_rfl) (fun _ _ _ h => h) (Or.inr ⟨by rfl, rfl⟩) hHeld ?_
            try simp only [ga, gb, gc, Act.put, gs, gd, ge]
            as_aux_lemma =>
             refine wpAnyH_take (i := 72) (v := undef) rfl (by kernel_rfl) (by kernel_rfl) (by kernel_rfl) (fun _ _ _ h => h) (Or.inr ⟨by rfl, rfl⟩) hHeld ?_
             try simp only [ga, gb, gc, Act.put, gs, gd, ge]
             refine wpAnyH_take (i := 73) (v := undef) rfl (by kernel_rfl) (by kernel_rfl) (by kernel_rfl) (fun _ _ _ h => h) (Or.inr ⟨by rfl, rfl⟩) hHeld ?_
             try simp only [ga, gb, gc, Act.put, gs, gd, ge]
             refine wpAnyH_take (i := 74) (v := undef) rfl (by kernel_rfl) (by kernel_rfl) (by kernel_rfl) (fun _ _ _ h => h) (Or.inr ⟨by rfl, rfl⟩) hHeld ?_
             try simp only [ga, gb, gc, Act.put, gs, gd, ge]
             refine wpAnyH_take (i := 75) (v := undef) rfl (by kernel_rfl) (by kernel_rfl) (by kernel_rfl) (fun _ _ _ h => h) (Or.inr ⟨by rfl, rfl⟩) hHeld ?_
             try simp only [ga, gb, gc, Act.put, gs, gd, ge]
             refine wpAnyH_take (i := 76) (v := undef) rfl (by kernel_rfl) (by kernel_rfl) (by kernel_rfl) (fun _ _ _ h => h) (Or.inr ⟨by rfl, rfl⟩) hHeld ?_
             try simp only [ga, gb, gc, Act.put, gs, gd, ge]
             refine wpAnyH_take (i := 77) (v := undef) rfl (by kernel_rfl) (by kernel_rfl) (by kernel_rfl) (fun _ _ _ h => h) (Or.inr ⟨by rfl, rfl⟩) hHeld ?_
             try simp only [ga, gb, gc, Act.put, gs, gd, ge]
             refine wpAnyH_take (i := 78) (v := undef) rfl (by kernel_rfl) (by kernel_rfl) (by kernel_rfl) (fun _ _ _ h => h) (Or.inr ⟨by rfl, rfl⟩) hHeld ?_
             try simp only [ga, gb, gc, Act.put, gs, gd, ge]
             refine wpAnyH_take (i := 79) (v := undef) rfl (by kernel_rfl) (by kernel_rfl) (by kernel_rfl) (fun _ _ _ h => h) (Or.inr ⟨by rfl, rfl⟩) hHeld ?_
             try simp only [ga, gb, gc, Act.put, gs, gd, ge]
             refine wpAnyH_take (i := 80) (v := undef) rfl (by kernel_rfl) (by kernel_rfl) (by kernel_rfl) (fun _ _ _ h => h) (Or.inr ⟨by rfl, rfl⟩) hHeld ?_
             try simp only [ga, gb, gc, Act.put, gs, gd, ge]
             refine wpAnyH_take (i := 81) (v := undef) rfl (by kernel_rfl) (by kernel_rfl) (by kernel_rfl) (fun _ _ _ h => h) (Or.inr ⟨by rfl, rfl⟩) hHeld ?_
             try simp only [ga, gb, gc, Act.put, gs, gd, ge]
             refine wpAnyH_take (i := 82) (v := undef) rfl (by kernel_rfl) (by kernel_rfl) (by kernel_rfl) (fun _ _ _ h => h) (Or.inr ⟨by rfl, rfl⟩) hHeld ?_
             try simp only [ga, gb, gc, Act.put, gs, gd, ge]
             refine wpAnyH_take (i := 83) (v := undef) rfl (by kernel_rfl) (by kernel_rfl) (by kernel_rfl) (fun _ _ _ h => h) (Or.inr ⟨by rfl, rfl⟩) hHeld ?_
             try simp only [ga, gb, gc, Act.put, gs, gd, ge]
             as_aux_lemma =>
              refine wpAnyH_take (i := 84) (v := undef) rfl (by kernel_rfl) (by kernel_rfl) (by kernel_rfl) (fun _ _ _ h => h) (Or.inr ⟨by rfl, rfl⟩) hHeld ?_
              try simp only [ga, gb, gc, Act.put, gs, gd, ge]
              refine wpAnyH_take (i := 85) (v := undef) rfl (by kernel_rfl) (by kernel_rfl) (by kernel_rfl) (fun _ _ _ h => h) (Or.inr ⟨by rfl, rfl⟩) hHeld ?_
              try simp only [ga, gb, gc, Act.put, gs, gd, ge]
              refine wpAnyH_take (i := 86) (v := ?_) rfl (by kernel_rfl) (by kernel_rfl) (by kernel_rfl) (fun _ _ _ h => h) (Or.inl ⟨by rfl, ?_⟩) hHeld ?_; rotate_left
              ·(intro wS hSw; (try dsimp only at hSw); (try go_split_ands); go_simp; try with_reducible rfl)
              try simp only [ga, gb, gc, Act.put, gs, gd, ge]
              refine wpAnyH_take (i := 87) (v := ?_) rfl (by kernel_rfl) (by kernel_rfl) (by kernel_rfl) (fun _ _ _ h => h) (Or.inl ⟨by rfl, ?_⟩) hHeld ?_; rotate_left
              ·(intro wS hSw; (try dsimp only at hSw); (try go_split_ands); go_simp; try with_reducible rfl)
              try simp only [ga, gb, gc, Act.put, gs, gd, ge]
              refine wpAnyH_done (by kernel_rfl) ?_ _
              clear hwm4
              go_wp2_with (fail)
              go_roundw
              case rel => exact ⟨m + 1 + 1, by omega, by go_num, HBR.out.drew⟩
              case measure => simp [intOf]; omega
      ·subst hg1
       have hq0 : (0 : Int) ≤ (q : Int) := Int.natCast_nonneg q
       have hql : (q : Int) < (z0.length : Int) := Int.ofNat_lt.2 hq3
       have hql' : ¬ (z0.length : Int) ≤ (q : Int) := by omega
       have hpq' : ¬ (q : Int) ≤ (p : Int) := by omega
       have hqd1 : decide ((0 : Int) ≤ (q : Int)) = true := decide_eq_true hq0
       have hqd2 : decide ((z0.length : Int) ≤ (q : Int)) = false := decide_eq_false hql'
       have hqd3 : decide (z0.length ≤ q) = false := decide_eq_false (by omega)
       have hql3 : ¬ z0.length ≤ q := by omega
       have hqd4 : decide (q ≤ p) = false := decide_eq_false (by omega)
       have hql4 : ¬ q ≤ p := by omega
       have hqd5 : decide ((q : Int) ≤ (p : Int)) = false := decide_eq_false hpq'
       go_wp2_with (fail)
       have hwm4 := HWM.out
       refine wp_region_held_drew (S := fun W => W.cell? ⟨b, o + (m + 1) * 13 + 1, none⟩ = some (.int .i64 (p : Int)) ∧ W.cell? ⟨b, o + (m + 1) * 13 + 2, none⟩ = some (.int .i64 (q : Int)) ∧ W.cell? ⟨bh, oh' + p * 12 + 1, none⟩ = some (.bool false) ∧ W.cell? ⟨b, o + m * 13 + 1, none⟩ = some (.int .i64 df) ∧ W.cell? ⟨bh, oh' + q * 12 + 1, none⟩ = some (.bool true)) (by kernel_rfl) (by first | exact ⟨ca1, ca2, ea1, da1, eq1⟩) (fun hHeld => ?_)
       refine wpAnyH_take (i := 0) (v := ?_) rfl (by kernel_rfl) (by kernel_rfl) (by kernel_rfl) (fun _ _ _ h => h) (Or.inl ⟨by rfl, ?_⟩) hHeld ?_; rotate_left
       ·(intro wS hSw; (try dsimp only at hSw); (try go_split_ands); go_simp; try with_reducible rfl)
       try simp only [ga, gb, gc, Act.put, gs, gd, ge]
       refine wpAnyH_take (i := 1) (v := ?_) rfl (by kernel_rfl) (by kernel_rfl) (by kernel_rfl) (fun _ _ _ h => h) (Or.inl ⟨by rfl, ?_⟩) hHeld ?_; rotate_left
       ·(intro wS hSw; (try dsimp only at hSw); (try go_split_ands); go_simp; try with_reducible rfl)
       try simp only [ga, gb, gc, Act.put, gs, gd, ge]
       refine wpAnyH_take (i := 2) (v := ?_) rfl (by kernel_rfl) (by kernel_rfl) (by kernel_rfl) (fun _ _ _ h => h) (Or.inl ⟨by rfl, ?_⟩) hHeld ?_; rotate_left
       ·(intro wS hSw; (try dsimp only at hSw); (try go_split_ands); go_simp; try with_reducible rfl)
       try simp only [ga, gb, gc, Act.put, gs, gd, ge]
       refine wpAnyH_take (i := 3) (v := ?_) rfl (by kernel_rfl) (by kernel_rfl) (by kernel_rfl) (fun _ _ _ h => h) (Or.inl ⟨by rfl, ?_⟩) hHeld ?_; rotate_left
       ·(intro wS hSw; (try dsimp only at hSw); (try go_split_ands); go_simp; try with_reducible rfl)
       try simp only [ga, gb, gc, Act.put, gs, gd, ge]
       refine wpAnyH_take (i := 4) (v := ?_) rfl (by kernel_rfl) (by kernel_rfl) (by kernel_rfl) (fun _ _ _ h => h) (Or.inl ⟨by rfl, ?_⟩) hHeld ?_; rotate_left
       ·(intro wS hSw; (try dsimp only at hSw); (try go_split_ands); go_simp; try with_reducible rfl)
       try simp only [ga, gb, gc, Act.put, gs, gd, ge]
       refine wpAnyH_take (i := 5) (v := ?_) rfl (by kernel_rfl) (by kernel_rfl) (by kernel_rfl) (fun _ _ _ h => h) (Or.inl ⟨by rfl, ?_⟩) hHeld ?_; rotate_left
       ·(intro wS hSw; (try dsimp only at hSw); (try go_split_ands); go_simp; try with_reducible rfl)
       try simp only [ga, gb, gc, Act.put, gs, gd, ge]
       refine wpAnyH_take (i := 6) (v := ?_) rfl (by kernel_rfl) (by kernel_rfl) (by kernel_rfl) (fun _ _ _ h => h) (Or.inl ⟨by rfl, ?_⟩) hHeld ?_; rotate_left
       ·(intro wS hSw; (try dsimp only at hSw); (try go_split_ands); go_simp; try with_reducible rfl)
       try simp only [ga, gb, gc, Act.put, gs, gd, ge]
       refine wpAnyH_take (i := 7) (v := ?_) rfl (by kernel_rfl) (by kernel_rfl) (by kernel_rfl) (fun _ _ _ h => h) (Or.inl ⟨by rfl, ?_⟩) hHeld ?_; rotate_left
       ·(intro wS hSw; (try dsimp only at hSw); (try go_split_ands); go_simp; try with_reducible rfl)
       try simp only [ga, gb, gc, Act.put, gs, gd, ge]
       refine wpAnyH_take (i := 8) (v := ?_) rfl (by kernel_rfl) (by kernel_rfl) (by kernel_rfl) (fun _ _ _ h => h) (Or.inl ⟨by rfl, ?_⟩) hHeld ?_; rotate_left
       ·(intro wS hSw; (try dsimp only at hSw); (try go_split_ands); go_simp; try with_reducible rfl)
       try simp only [ga, gb, gc, Act.put, gs, gd, ge]
       refine wpAnyH_take (i := 9) (v := ?_) rfl (by kernel_rfl) (by kernel_rfl) (by kernel_rfl) (fun _ _ _ h => h) (Or.inl ⟨by rfl, ?_⟩) hHeld ?_; rotate_left
       ·(intro wS hSw; (try dsimp only at hSw); (try go_split_ands); go_simp; try with_reducible rfl)
       try simp only [ga, gb, gc, Act.put, gs, gd, ge]
       refine wpAnyH_take (i := 10) (v := ?_) rfl (by kernel_rfl) (by kernel_rfl) (by kernel_rfl) (fun _ _ _ h => h) (Or.inl ⟨by rfl, ?_⟩) hHeld ?_; rotate_left
       ·(intro wS hSw; (try dsimp only at hSw); (try go_split_ands); go_simp; try with_reducible rfl)
       try simp only [ga, gb, gc, Act.put, gs, gd, ge]
       refine wpAnyH_take (i := 11) (v := ?_) rfl (by kernel_rfl) (by kernel_rfl) (by kernel_rfl) (fun _ _ _ h => h) (Or.inl ⟨by rfl, ?_⟩) hHeld ?_; rotate_left
       ·(intro wS hSw; (try dsimp only at hSw); (try go_split_ands); go_simp; try with_reducible rfl)
       try simp only [ga, gb, gc, Act.put, gs, gd, ge]
       as_aux_lemma =>
        refine wpAnyH_take (i := 12) (v := ?_) rfl (by kernel_rfl) (by kernel_rfl) (by kernel_rfl) (fun _ _ _ h => h) (Or.inl ⟨by rfl, ?_⟩) hHeld ?_; rotate_left
        ·(intro wS hSw; (try dsimp only at hSw); (try go_split_ands); go_simp; try with_reducible rfl)
        try simp only [ga, gb, gc, Act.put, gs, gd, ge]
        refine wpAnyH_take (i := 13) (v := ?_) rfl (by kernel_rfl) (by kernel_rfl) (by kernel_rfl) (fun _ _ _ h => h) (Or.inl ⟨by rfl, ?_⟩) hHeld ?_; rotate_left
        ·(intro wS hSw; (try dsimp only at hSw); (try go_split_ands); go_simp; try with_reducible rfl)
        try simp only [ga, gb, gc, Act.put, gs, gd, ge]
        refine wpAnyH_take (i := 14) (v := ?_) rfl (by kernel_rfl) (by kernel_rfl) (by kernel_rfl) (fun _ _ _ h => h) (Or.inl ⟨by rfl, ?_⟩) hHeld ?_; rotate_left
        ·(intro wS hSw; (try dsimp only at hSw); (try go_split_ands); go_simp; try with_reducible rfl)
        try simp only [ga, gb, gc, Act.put, gs, gd, ge]
        refine wpAnyH_take (i := 15) (v := ?_) rfl (by kernel_rfl) (by kernel_rfl) (by kernel_rfl) (fun _ _ _ h => h) (Or.inl ⟨by rfl, ?_⟩) hHeld ?_; rotate_left
        ·(intro wS hSw; (try dsimp only at hSw); (try go_split_ands); go_simp; try with_reducible rfl)
        try simp only [ga, gb, gc, Act.put, gs, gd, ge]
        refine wpAnyH_take (i := 16) (v := ?_) rfl (by kernel_rfl) (by kernel_rfl) (by kernel_rfl) (fun _ _ _ h => h) (Or.inl ⟨by rfl, ?_⟩) hHeld ?_; rotate_left
        ·(intro wS hSw; (try dsimp only at hSw); (try go_split_ands); go_simp; try with_reducible rfl)
        try simp only [ga, gb, gc, Act.put, gs, gd, ge]
        refine wpAnyH_take (i := 17) (v := ?_) rfl (by kernel_rfl) (by kernel_rfl) (by kernel_rfl) (fun _ _ _ h => h) (Or.inl ⟨by rfl, ?_⟩) hHeld ?_; rotate_left
        ·(intro wS hSw; (try dsimp only at hSw); (try go_split_ands); go_simp; try with_reducible rfl)
        try simp only [ga, gb, gc, Act.put, gs, gd, ge]
        refine wpAnyH_take (i := 18) (v := ?_) rfl (by kernel_rfl) (by kernel_rfl) (by kernel_rfl) (fun _ _ _ h => h) (Or.inl ⟨by rfl, ?_⟩) hHeld ?_; rotate_left
        ·(intro wS hSw; (try dsimp only at hSw); (try go_split_ands); go_simp; try with_reducible rfl)
        try simp only [ga, gb, gc, Act.put, gs, gd, ge]
        refine wpAnyH_take (i := 19) (v := ?_) rfl (by kernel_rfl) (by kernel_rfl) (by kernel_rfl) (fun _ _ _ h => h) (Or.inl ⟨by rfl, ?_⟩) hHeld ?_; rotate_left
        ·(intro wS hSw; (try dsimp only at hSw); (try go_split_ands); go_simp; try with_reducible rfl)
        try simp only [ga, gb, gc, Act.put, gs, gd, ge]
        refine wpAnyH_take (i := 20) (v := ?_) rfl (by kernel_rfl) (by kernel_rfl) (by kernel_rfl) (fun _ _ _ h => h) (Or.inl ⟨by rfl, ?_⟩) hHeld ?_; rotate_left
        ·(intro wS hSw; (try dsimp only at hSw); (try go_split_ands); go_simp; try with_reducible rfl)
        try simp only [ga, gb, gc, Act.put, gs, gd, ge]
        refine wpAnyH_take (i := 21) (v := ?_) rfl (by kernel_rfl) (by kernel_rfl) (by kernel_rfl) (fun _ _ _ h => h) (Or.inl ⟨by rfl, ?_⟩) hHeld ?_; rotate_left
        ·(intro wS hSw; (try dsimp only at hSw); (try go_split_ands); go_simp; try with_reducible rfl)
        try simp only [ga, gb, gc, Act.put, gs, gd, ge]
        refine wpAnyH_take (i := 22) (v := ?_) rfl (by kernel_rfl) (by kernel_rfl) (by kernel_rfl) (fun _ _ _ h => h) (Or.inl ⟨by rfl, ?_⟩) hHeld ?_; rotate_left
        ·(intro wS hSw; (try dsimp only at hSw); (try go_split_ands); go_simp; try with_reducible rfl)
        try simp only [ga, gb, gc, Act.put, gs, gd, ge]
        refine wpAnyH_take (i := 23) (v := ?_) rfl (by kernel_rfl) (by kernel_rfl) (by kernel_rfl) (fun _ _ _ h => h) (Or.inl ⟨by rfl, ?_⟩) hHeld ?_; rotate_left
        ·(intro wS hSw; (try dsimp only at hSw); (try go_split_ands); go_simp; try with_reducible rfl)
        try simp only [ga, gb, gc, Act.put, gs, gd, ge]
        as_aux_lemma =>
         refine wpAnyH_take (i := 24) (v := ?_) rfl (by kernel_rfl) (by kernel_rfl) (by kernel_rfl) (fun _ _ _ h => h) (Or.inl ⟨by rfl, ?_⟩) hHeld ?_; rotate_left
         ·(intro wS hSw; (try dsimp only at hSw); (try go_split_ands); go_simp; try with_reducible rfl)
         try simp only [ga, gb, gc, Act.put, gs, gd, ge]
         refine wpAnyH_take (i := 25) (v := ?_) rfl (by kernel_rfl) (by kernel_rfl) (by kernel_rfl) (fun _ _ _ h => h) (Or.inl ⟨by rfl, ?_⟩) hHeld ?_; rotate_left
         ·(intro wS hSw; (try dsimp only at hSw); (try go_split_ands); go_simp; try with_reducible rfl)
         try simp only [ga, gb, gc, Act.put, gs, gd, ge]
         refine wpAnyH_take (i := 26) (v := ?_) rfl (by kernel_rfl) (by kernel_rfl) (by kernel_rfl) (fun _ _ _ h => h) (Or.inl ⟨by rfl, ?_⟩) hHeld ?_; rotate_left
         ·(intro wS hSw; (try dsimp only at hSw); (try go_split_ands); go_simp; try with_reducible rfl)
         try simp only [ga, gb, gc, Act.put, gs, gd, ge]
         refine wpAnyH_take (i := 27) (v := ?_) rfl (by kernel_rfl) (by kernel_rfl) (by kernel_rfl) (fun _ _ _ h => h) (Or.inl ⟨by rfl, ?_⟩) hHeld ?_; rotate_left
         ·(intro wS hSw; (try dsimp only at hSw); (try go_split_ands); go_simp; try with_reducible rfl)
         try simp only [ga, gb, gc, Act.put, gs, gd, ge]
         refine wpAnyH_take (i := 28) (v := ?_) rfl (by kernel_rfl) (by kernel_rfl) (by kernel_rfl) (fun _ _ _ h => h) (Or.inl ⟨by rfl, ?_⟩) hHeld ?_; rotate_left
         ·(intro wS hSw; (try dsimp only at hSw); (try go_split_ands); go_simp; try with_reducible rfl)
         try simp only [ga, gb, gc, Act.put, gs, gd, ge]
         refine wpAnyH_take (i := 29) (v := ?_) rfl (by kernel_rfl) (by kernel_rfl) (by kernel_rfl) (fun _ _ _ h => h) (Or.inl ⟨by rfl, ?_⟩) hHeld ?_; rotate_left
         ·(intro wS hSw; (try dsimp only at hSw); (try go_split_ands); go_simp; try with_reducible rfl)
         try simp only [ga, gb, gc, Act.put, gs, gd, ge]
         refine wpAnyH_take (i := 30) (v := ?_) rfl (by kernel_rfl) (by kernel_rfl) (by kernel_rfl) (fun _ _ _ h => h) (Or.inl ⟨by rfl, ?_⟩) hHeld ?_; rotate_left
         ·(intro wS hSw; (try dsimp only at hSw); (try go_split_ands); go_simp; try with_reducible rfl)
         try simp only [ga, gb, gc, Act.put, gs, gd, ge]
         refine wpAnyH_take (i := 31) (v := ?_) rfl (by kernel_rfl) (by kernel_rfl) (by kernel_rfl) (fun _ _ _ h => h) (Or.inl ⟨by rfl, ?_⟩) hHeld ?_; rotate_left
         ·(intro wS hSw; (try dsimp only at hSw); (try go_split_ands); go_simp; try with_reducible rfl)
         try simp only [ga, gb, gc, Act.put, gs, gd, ge]
         refine wpAnyH_take (i := 32) (v := ?_) rfl (by kernel_rfl) (by kernel_rfl) (by kernel_rfl) (fun _ _ _ h => h) (Or.inl ⟨by rfl, ?_⟩) hHeld ?_; rotate_left
         ·(intro wS hSw; (try dsimp only at hSw); (try go_split_ands); go_simp; try with_reducible rfl)
         try simp only [ga, gb, gc, Act.put, gs, gd, ge]
         refine wpAnyH_take (i := 33) (v := ?_) rfl (by kernel_rfl) (by kernel_rfl) (by kernel_rfl) (fun _ _ _ h => h) (Or.inl ⟨by rfl, ?_⟩) hHeld ?_; rotate_left
         ·(intro wS hSw; (try dsimp only at hSw); (try go_split_ands); go_simp; try with_reducible rfl)
         try simp only [ga, gb, gc, Act.put, gs, gd, ge]
         refine wpAnyH_take (i := 34) (v := ?_) rfl (by kernel_rfl) (by kernel_rfl) (by kernel_rfl) (fun _ _ _ h => h) (Or.inl ⟨by rfl, ?_⟩) hHeld ?_; rotate_left
         ·(intro wS hSw; (try dsimp only at hSw); (try go_split_ands); go_simp; try with_reducible rfl)
         try simp only [ga, gb, gc, Act.put, gs, gd, ge]
         refine wpAnyH_take (i := 35) (v := ?_) rfl (by kernel_rfl) (by kernel_rfl) (by kernel_rfl) (fun _ _ _ h => h) (Or.inl ⟨by rfl, ?_⟩) hHeld ?_; rotate_left
         ·(intro wS hSw; (try dsimp only at hSw); (try go_split_ands); go_simp; try with_reducible rfl)
         try simp only [ga, gb, gc, Act.put, gs, gd, ge]
         as_aux_lemma =>
          refine wpAnyH_take (i := 36) (v := ?_) rfl (by kernel_rfl) (by kernel_rfl) (by kernel_rfl) (fun _ _ _ h => h) (Or.inl ⟨by rfl, ?_⟩) hHeld ?_; rotate_left
          ·(intro wS hSw; (try dsimp only at hSw); (try go_split_ands); go_simp; try with_reducible rfl)
          try simp only [ga, gb, gc, Act.put, gs, gd, ge]
          refine wpAnyH_take (i := 37) (v := ?_) rfl (by kernel_rfl) (by kernel_rfl) (by kernel_rfl) (fun _ _ _ h => h) (Or.inl ⟨by rfl, ?_⟩) hHeld ?_; rotate_left
          ·(intro wS hSw; (try dsimp only at hSw); (try go_split_ands); go_simp; try with_reducible rfl)
          try simp only [ga, gb, gc, Act.put, gs, gd, ge]
          refine wpAnyH_take (i := 38) (v := ?_) rfl (by kernel_rfl) (by kernel_rfl) (by kernel_rfl) (fun _ _ _ h => h) (Or.inl ⟨by rfl, ?_⟩) hHeld ?_; rotate_left
          ·(intro wS hSw; (try dsimp only at hSw); (try go_split_ands); go_simp; try with_reducible rfl)
          try simp only [ga, gb, gc, Act.put, gs, gd, ge]
          refine wpAnyH_take (i := 39) (v := ?_) rfl (by kernel_rfl) (by kernel_rfl) (by kernel_rfl) (fun _ _ _ h => h) (Or.inl ⟨by rfl, ?_⟩) hHeld ?_; rotate_left
          ·(intro wS hSw; (try dsimp only at hSw); (try go_split_ands); go_simp; try with_reducible rfl)
          try simp only [ga, gb, gc, Act.put, gs, gd, ge]
          refine wpAnyH_take (i := 40) (v := ?_) rfl (by kernel_rfl) (by kernel_rfl) (by kernel_rfl) (fun _ _ _ h => h) (Or.inl ⟨by rfl, ?_⟩) hHeld ?_; rotate_left
          ·(intro wS hSw; (try dsimp only at hSw); (try go_split_ands); go_simp; try with_reducible rfl)
          try simp only [ga, gb, gc, Act.put, gs, gd, ge]
          refine wpAnyH_take (i := 41) (v := ?_) rfl (by kernel_rfl) (by kernel_rfl) (by kernel_rfl) (fun _ _ _ h => h) (Or.inl ⟨by rfl, ?_⟩) hHeld ?_; rotate_left
          ·(intro wS hSw; (try dsimp only at hSw); (try go_split_ands); go_simp; try with_reducible rfl)
          try simp only [ga, gb, gc, Act.put, gs, gd, ge]
          refine wpAnyH_take (i := 42) (v := ?_) rfl (by kernel_rfl) (by kernel_rfl) (by kernel_rfl) (fun _ _ _ h => h) (Or.inl ⟨by rfl, ?_⟩) hHeld ?_; rotate_left
          ·(intro wS hSw; (try dsimp only at hSw); (try go_split_ands); go_simp; try with_reducible rfl)
          try simp only [ga, gb, gc, Act.put, gs, gd, ge]
          refine wpAnyH_take (i := 43) (v := ?_) rfl (by kernel_rfl) (by kernel_rfl) (by kernel_rfl) (fun _ _ _ h => h) (Or.inl ⟨by rfl, ?_⟩) hHeld ?_; rotate_left
          ·(intro wS hSw; (try dsimp only at hSw); (try go_split_ands); go_simp; try with_reducible rfl)
          try simp only [ga, gb, gc, Act.put, gs, gd, ge]
          refine wpAnyH_take (i := 44) (v := ?_) rfl (by kernel_rfl) (by kernel_rfl) (by kernel_rfl) (fun _ _ _ h => h) (Or.inl ⟨by rfl, ?_⟩) hHeld ?_; rotate_left
          ·(intro wS hSw; (try dsimp only at hSw); (try go_split_ands); go_simp; try with_reducible rfl)
          try simp only [ga, gb, gc, Act.put, gs, gd, ge]
          refine wpAnyH_take (i := 45) (v := ?_) rfl (by kernel_rfl) (by kernel_rfl) (by kernel_rfl) (fun _ _ _ h => h) (Or.inl ⟨by rfl, ?_⟩) hHeld ?_; rotate_left
          ·(intro wS hSw; (try dsimp only at hSw); (try go_split_ands); go_simp; try with_reducible rfl)
          try simp only [ga, gb, gc, Act.put, gs, gd, ge]
          refine wpAnyH_take (i := 46) (v := ?_) rfl (by kernel_rfl) (by kernel_rfl) (by kernel_rfl) (fun _ _ _ h => h) (Or.inl ⟨by rfl, ?_⟩) hHeld ?_; rotate_left
          ·(intro wS hSw; (try dsimp only at hSw); (try go_split_ands); go_simp; try with_reducible rfl)
          try simp only [ga, gb, gc, Act.put, gs, gd, ge]
          refine wpAnyH_take (i := 47) (v := ?_) rfl (by kernel_rfl) (by kernel_rfl) (by kernel_rfl) (fun _ _ _ h => h) (Or.inl ⟨by rfl, ?_⟩) hHeld ?_; rotate_left
          ·(intro wS hSw; (try dsimp only at hSw); (try go_split_ands); go_simp; try with_reducible rfl)
          try simp only [ga, gb, gc, Act.put, gs, gd, ge]
          as_aux_lemma =>
           refine wpAnyH_take (i := 48) (v := ?_) rfl (by kernel_rfl) (by kernel_rfl) (by kernel_rfl) (fun _ _ _ h => h) (Or.inl ⟨by rfl, ?_⟩) hHeld ?_; rotate_left
           ·(intro wS hSw; (try dsimp only at hSw); (try go_split_ands); go_simp; try with_reducible rfl)
           try simp only [ga, gb, gc, Act.put, gs, gd, ge]
           refine wpAnyH_take (i := 49) (v := ?_) rfl (by kernel_rfl) (by kernel_rfl) (by kernel_rfl) (fun _ _ _ h => h) (Or.inl ⟨by rfl, ?_⟩) hHeld ?_; rotate_left
           ·(intro wS hSw; (try dsimp only at hSw); (try go_split_ands); go_simp; try with_reducible rfl)
           try simp only [ga, gb, gc, Act.put, gs, gd, ge]
           refine wpAnyH_take (i := 50) (v := ?_) rfl (by kernel_rfl) (by kernel_rfl) (by kernel_rfl) (fun _ _ _ h => h) (Or.inl ⟨by rfl, ?_⟩) hHeld ?_; rotate_left
           ·(intro wS hSw; (try dsimp only at hSw); (try go_split_ands); go_simp; try with_reducible rfl)
           try simp only [ga, gb, gc, Act.put, gs, gd, ge]
           refine wpAnyH_take (i := 51) (v := ?_) rfl (by kernel_rfl) (by kernel_rfl) (by kernel_rfl) (fun _ _ _ h => h) (Or.inl ⟨by rfl, ?_⟩) hHeld ?_; rotate_left
           ·(intro wS hSw; (try dsimp only at hSw); (try go_split_ands); go_simp; try with_reducible rfl)
           try simp only [ga, gb, gc, Act.put, gs, gd, ge]
           refine wpAnyH_take (i := 52) (v := ?_) rfl (by kernel_rfl) (by kernel_rfl) (by kernel_rfl) (fun _ _ _ h => h) (Or.inl ⟨by rfl, ?_⟩) hHeld ?_; rotate_left
           ·(intro wS hSw; (try dsimp only at hSw); (try go_split_ands); go_simp; try with_reducible rfl)
           try simp only [ga, gb, gc, Act.put, gs, gd, ge]
           refine wpAnyH_take (i := 53) (v := ?_) rfl (by kernel_rfl) (by kernel_rfl) (by kernel_rfl) (fun _ _ _ h => h) (Or.inl ⟨by rfl, ?_⟩) hHeld ?_; rotate_left
           ·(intro wS hSw; (try dsimp only at hSw); (try go_split_ands); go_simp; try with_reducible rfl)
           try simp only [ga, gb, gc, Act.put, gs, gd, ge]
           refine wpAnyH_take (i := 54) (v := ?_) rfl (by kernel_rfl) (by kernel_rfl) (by kernel_rfl) (fun _ _ _ h => h) (Or.inl ⟨by rfl, ?_⟩) hHeld ?_; rotate_left
           ·(intro wS hSw; (try dsimp only at hSw); (try go_split_ands); go_simp; try with_reducible rfl)
           try simp only [ga, gb, gc, Act.put, gs, gd, ge]
           refine wpAnyH_take (i := 55) (v := ?_) rfl (by kernel_rfl) (by kernel_rfl) (by kernel_rfl) (fun _ _ _ h => h) (Or.inl ⟨by rfl, ?_⟩) hHeld ?_; rotate_left
           ·(intro wS hSw; (try dsimp only at hSw); (try go_split_ands); go_simp; try with_reducible rfl)
           try simp only [ga, gb, gc, Act.put, gs, gd, ge]
           refine wpAnyH_take (i := 56) (v := ?_) rfl (by kernel_rfl) (by kernel_rfl) (by kernel_rfl) (fun _ _ _ h => h) (Or.inl ⟨by rfl, ?_⟩) hHeld ?_; rotate_left
           ·(intro wS hSw; (try dsimp only at hSw); (try go_split_ands); go_simp; try with_reducible rfl)
           try simp only [ga, gb, gc, Act.put, gs, gd, ge]
           refine wpAnyH_take (i := 57) (v := ?_) rfl (by kernel_rfl) (by kernel_rfl) (by kernel_rfl) (fun _ _ _ h => h) (Or.inl ⟨by rfl, ?_⟩) hHeld ?_; rotate_left
           ·(intro wS hSw; (try dsimp only at hSw); (try go_split_ands); go_simp; try with_reducible rfl)
           try simp only [ga, gb, gc, Act.put, gs, gd, ge]
           refine wpAnyH_take (i := 58) (v := ?_) rfl (by kernel_rfl) (by kernel_rfl) (by kernel_rfl) (fun _ _ _ h => h) (Or.inl ⟨by rfl, ?_⟩) hHeld ?_; rotate_left
           ·(intro wS hSw; (try dsimp only at hSw); (try go_split_ands); go_simp; try with_reducible rfl)
           try simp only [ga, gb, gc, Act.put, gs, gd, ge]
           refine wpAnyH_take (i := 59) (v := ?_) rfl (by kernel_rfl) (by kernel_rfl) (by kernel_rfl) (fun _ _ _ h => h) (Or.inl ⟨by rfl, ?_⟩) hHeld ?_; rotate_left
           ·(intro wS hSw; (try dsimp only at hSw); (try go_split_ands); go_simp; try with_reducible rfl)
           try simp only [ga, gb, gc, Act.put, gs, gd, ge]
           as_aux_lemma =>
            refine wpAnyH_take (i := 60) (v := ?_) rfl (by kernel_rfl) (by kernel_rfl) (by kernel_rfl) (fun _ _ _ h => h) (Or.inl ⟨by rfl, ?_⟩) hHeld ?_; rotate_left
            ·(intro wS hSw; (try dsimp only at hSw); (try go_split_ands); go_simp; try with_reducible rfl)
            try simp only [ga, gb, gc, Act.put, gs, gd, ge]
            refine wpAnyH_take (i := 61) (v := ?_) rfl (by kernel_rfl) (by kernel_rfl) (by kernel_rfl) (fun _ _ _ h => h) (Or.inl ⟨by rfl, ?_⟩) hHeld ?_; rotate_left
            ·(intro wS hSw; (try dsimp only at hSw); (try go_split_ands); go_simp; try with_reducible rfl)
            try simp only [ga, gb, gc, Act.put, gs, gd, ge]
            refine wpAnyH_take (i := 62) (v := ?_) rfl (by kernel_rfl) (by kernel_rfl) (by kernel_rfl) (fun _ _ _ h => h) (Or.inl ⟨by rfl, ?_⟩) hHeld ?_; rotate_left
            ·(intro wS hSw; (try dsimp only at hSw); (try go_split_ands); go_simp; try with_reducible rfl)
            try simp only [ga, gb, gc, Act.put, gs, gd, ge]
            refine wpAnyH_take (i := 63) (v := ?_) rfl (by kernel_rfl) (by kernel_rfl) (by kernel_rfl) (fun _ _ _ h => h) (Or.inl ⟨by rfl, ?_⟩) hHeld ?_; rotate_left
            ·(intro wS hSw; (try dsimp only at hSw); (try go_split_ands); go_simp; try with_reducible rfl)
            try simp only [ga, gb, gc, Act.put, gs, gd, ge]
            refine wpAnyH_take (i := 64) (v := ?_) rfl (by kernel_rfl) (by kernel_rfl) (by kernel_rfl) (fun _ _ _ h => h) (Or.inl ⟨by rfl, ?_⟩) hHeld ?_; rotate_left
            ·(intro wS hSw; (try dsimp only at hSw); (try go_split_ands); go_simp; try with_reducible rfl)
            try simp only [ga, gb, gc, Act.put, gs, gd, ge]
            refine wpAnyH_take (i := 65) (v := ?_) rfl (by kernel_rfl) (by kernel_rfl) (by kernel_rfl) (fun _ _ _ h => h) (Or.inl ⟨by rfl, ?_⟩) hHeld ?_; rotate_left
            ·(intro wS hSw; (try dsimp only at hSw); (try go_split_ands); go_simp; try with_reducible rfl)
            try simp only [ga, gb, gc, Act.put, gs, gd, ge]
            refine wpAnyH_take (i := 66) (v := ?_) rfl (by kernel_rfl) (by kernel_rfl) (by kernel_rfl) (fun _ _ _ h => h) (Or.inl ⟨by rfl, ?_⟩) hHeld ?_; rotate_left
            ·(intro wS hSw; (try dsimp only at hSw); (try go_split_ands); go_simp; try with_reducible rfl)
            try simp only [ga, gb, gc, Act.put, gs, gd, ge]
            refine wpAnyH_take (i := 67) (v := ?_) rfl (by kernel_rfl) (by kernel_rfl) (by kernel_rfl) (fun _ _ _ h => h) (Or.inl ⟨by rfl, ?_⟩) hHeld ?_; rotate_left
            ·(intro wS hSw; (try dsimp only at hSw); (try go_split_ands); go_simp; try with_reducible rfl)
            try simp only [ga, gb, gc, Act.put, gs, gd, ge]
            refine wpAnyH_take (i := 68) (v := ?_) rfl (by kernel_rfl) (by kernel_rfl) (by kernel_rfl) (fun _ _ _ h => h) (Or.inl ⟨by rfl, ?_⟩) hHeld ?_; rotate_left
            ·(intro wS hSw; (try dsimp only at hSw); (try go_split_ands); go_simp; try with_reducible rfl)
            try simp only [ga, gb, gc, Act.put, gs, gd, ge]
            refine wpAnyH_take (i := 69) (v := ?_) rfl (by kernel_rfl) (by kernel_rfl) (by kernel_rfl) (fun _ _ _ h => h) (Or.inl ⟨by rfl, ?_⟩) hHeld ?_; rotate_left
            ·(intro wS hSw; (try dsimp only at hSw); (try go_split_ands); go_simp; try with_reducible rfl)
            try simp only [ga, gb, gc, Act.put, gs, gd, ge]
            refine wpAnyH_take (i := 70) (v := ?_) rfl (by kernel_rfl) (by kernel_rfl) (by kernel_rfl) (fun _ _ _ h => h) (Or.inl ⟨by rfl, ?_⟩) hHeld ?_; rotate_left
            ·(intro wS hSw; (try dsimp only at hSw); (try go_split_ands); go_simp; try with_reducible rfl)
            try simp only [ga, gb, gc, Act.put, gs, gd, ge]
            refine wpAnyH_take (i := 71) (v := ?_) rfl (by kernel_rfl) (by kernel_rfl) (by kernel_rfl) (fun _ _ _ h => h) (Or.inl ⟨by rfl, ?_⟩) hHeld ?_; rotate_left
            ·(intro wS hSw; (try dsimp only at hSw); (try go_split_ands); go_simp; try with_reducible rfl)
            try simp only [ga, gb, gc, Act.put, gs, gd, ge]
            as_aux_lemma =>
             refine wpAnyH_take (i := 72) (v := ?_) rfl (by kernel_rfl) (by kernel_rfl) (by kernel_rfl) (fun _ _ _ h => h) (Or.inl ⟨by rfl, ?_⟩) hHeld ?_; rotate_left
             ·(intro wS hSw; (try dsimp only at hSw); (try go_split_ands); go_simp; try with_reducible rfl)
             try simp only [ga, gb, gc, Act.put, gs, gd, ge]
             refine wpAnyH_take (i := 73) (v := ?_) rfl (by kernel_rfl) (by kernel_rfl) (by kernel_rfl) (fun _ _ _ h => h) (Or.inl ⟨by rfl, ?_⟩) hHeld ?_; rotate_left
             ·(intro wS hSw; (try dsimp only at hSw); (try go_split_ands); go_simp; try with_reducible rfl)
             try simp only [ga, gb, gc, Act.put, gs, gd, ge]
             refine wpAnyH_take (i := 74) (v := ?_) rfl (by kernel_rfl) (by kernel_rfl) (by kernel_rfl) (fun _ _ _ h => h) (Or.inl ⟨by rfl, ?_⟩) hHeld ?_; rotate_left
             ·(intro wS hSw; (try dsimp only at hSw); (try go_split_ands); go_simp; try with_reducible rfl)
             try simp only [ga, gb, gc, Act.put, gs, gd, ge]
             refine wpAnyH_take (i := 75) (v := ?_) rfl (by kernel_rfl) (by kernel_rfl) (by kernel_rfl) (fun _ _ _ h => h) (Or.inl ⟨by rfl, ?_⟩) hHeld ?_; rotate_left
             ·(intro wS hSw; (try dsimp only at hSw); (try go_split_ands); go_simp; try with_reducible rfl)
             try simp only [ga, gb, gc, Act.put, gs, gd, ge]
             refine wpAnyH_take (i := 76) (v := ?_) rfl (by kernel_rfl) (by kernel_rfl) (by kernel_rfl) (fun _ _ _ h => h) (Or.inl ⟨by rfl, ?_⟩) hHeld ?_; rotate_left
             ·(intro wS hSw; (try dsimp only at hSw); (try go_split_ands); go_simp; try with_reducible rfl)
             try simp only [ga, gb, gc, Act.put, gs, gd, ge]
             refine wpAnyH_take (i := 77) (v := ?_) rfl (by kernel_rfl) (by kernel_rfl) (by kernel_rfl) (fun _ _ _ h => h) (Or.inl ⟨by rfl, ?_⟩) hHeld ?_; rotate_left
             ·(intro wS hSw; (try dsimp only at hSw); (try go_split_ands); go_simp; try with_reducible rfl)
             try simp only [ga, gb, gc, Act.put, gs, gd, ge]
             refine wpAnyH_take (i := 78) (v := ?_) rfl (by kernel_rfl) (by kernel_rfl) (by kernel_rfl) (fun _ _ _ h => h) (Or.inl ⟨by rfl, ?_⟩) hHeld ?_; rotate_left
             ·(intro wS hSw; (try dsimp only at hSw); (try go_split_ands); go_simp; try with_reducible rfl)
             try simp only [ga, gb, gc, Act.put, gs, gd, ge]
             refine wpAnyH_take (i := 79) (v := ?_) rfl (by kernel_rfl) (by kernel_rfl) (by kernel_rfl) (fun _ _ _ h => h) (Or.inl ⟨by rfl, ?_⟩) hHeld ?_; rotate_left
             ·(intro wS hSw; (try dsimp only at hSw); (try go_split_ands); go_simp; try with_reducible rfl)
             try simp only [ga, gb, gc, Act.put, gs, gd, ge]
             refine wpAnyH_take (i := 80) (v := ?_) rfl (by kernel_rfl) (by kernel_rfl) (by kernel_rfl) (fun _ _ _ h => h) (Or.inl ⟨by rfl, ?_⟩) hHeld ?_; rotate_left
             ·(intro wS hSw; (try dsimp only at hSw); (try go_split_ands); go_simp; try with_reducible rfl)
             try simp only [ga, gb, gc, Act.put, gs, gd, ge]
             refine wpAnyH_take (i := 81) (v := ?_) rfl (by kernel_rfl) (by kernel_rfl) (by kernel_rfl) (fun _ _ _ h => h) (Or.inl ⟨by rfl, ?_⟩) hHeld ?_; rotate_left
             ·(intro wS hSw; (try dsimp only at hSw); (try go_split_ands); go_simp; try with_reducible rfl)
             try simp only [ga, gb, gc, Act.put, gs, gd, ge]
             refine wpAnyH_take (i := 82) (v := ?_) rfl (by kernel_rfl) (by kernel_rfl) (by kernel_rfl) (fun _ _ _ h => h) (Or.inl ⟨by rfl, ?_⟩) hHeld ?_; rotate_left
             ·(intro wS hSw; (try dsimp only at hSw); (try go_split_ands); go_simp; try with_reducible rfl)
             try simp only [ga, gb, gc, Act.put, gs, gd, ge]
             refine wpAnyH_take (i := 83) (v := ?_) rfl (by kernel_rfl) (by kernel_rfl) (by kernel_rfl) (fun _ _ _ h => h) (Or.inl ⟨by rfl, ?_⟩) hHeld ?_; rotate_left
             ·(intro wS hSw; (try dsimp only at hSw); (try go_split_ands); go_simp; try with_reducible rfl)
             try simp only [ga, gb, gc, Act.put, gs, gd, ge]
             as_aux_lemma =>
              refine wpAnyH_take (i := 84) (v := ?_) rfl (by kernel_rfl) (by kernel_rfl) (by kernel_rfl) (fun _ _ _ h => h) (Or.inl ⟨by rfl, ?_⟩) hHeld ?_; rotate_left
              ·(intro wS hSw; (try dsimp only at hSw); (try go_split_ands); go_simp; try with_reducible rfl)
              try simp only [ga, gb, gc, Act.put, gs, gd, ge]
              refine wpAnyH_take (i := 85) (v := ?_) rfl (by kernel_rfl) (by kernel_rfl) (by kernel_rfl) (fun _ _ _ h => h) (Or.inl ⟨by rfl, ?_⟩) hHeld ?_; rotate_left
              ·(intro wS hSw; (try dsimp only at hSw); (try go_split_ands); go_simp; try with_reducible rfl)
              try simp only [ga, gb, gc, Act.put, gs, gd, ge]
              refine wpAnyH_take (i := 86) (v := ?_) rfl (by kernel_rfl) (by kernel_rfl) (by kernel_rfl) (fun _ _ _ h => h) (Or.inl ⟨by rfl, ?_⟩) hHeld ?_; rotate_left
              ·(intro wS hSw; (try dsimp only at hSw); (try go_split_ands); go_simp; try with_reducible rfl)
              try simp only [ga, gb, gc, Act.put, gs, gd, ge]
              refine wpAnyH_take (i := 87) (v := ?_) rfl (by kernel_rfl) (by kernel_rfl) (by kernel_rfl) (fun _ _ _ h => h) (Or.inl ⟨by rfl, ?_⟩) hHeld ?_; rotate_left
              ·(intro wS hSw; (try dsimp only at hSw); (try go_split_ands); go_simp; try with_reducible rfl)
              try simp only [ga, gb, gc, Act.put, gs, gd, ge]
              refine wpAnyH_done (by kernel_rfl) ?_ _
              clear hwm4
              go_wp2_with (fail)
              go_roundw
              case rel => exact ⟨m + 1 + 1, by omega, by go_num, HBR.out.drew⟩
              case measure => simp [intOf]; omega

set_option maxRecDepth 100000 in
theorem lifted (os : Os) (started : os.Started) (H : Type) (enc : TypeId × Value → H) :
    ReturnsInHanded {} Try.checked os 4 .any (Rows.pastOrderSpec.pre6 enc Try.prog Try.f4 Rows.pastOrderRow.domain false) (Rows.pastOrderSpec.post enc Try.prog Try.f4 false true false false) := by
  refine returnsInHanded_of_change_sized (C := Try.checked) own started (by kernel_rfl) Try.func4
    (ChangeSpec.witness6 (enc := enc) (C := Try.checked) false ⟨#[], #[.slice none 0 0, .int .i64 0, .int .i64 0, .int .i64 0], []⟩ 8 (by kernel_rfl) (by kernel_rfl) (by kernel_rfl) (by kernel_rfl)) ?_
  intro W base args ds gs before hval0 hW hcnd hsz _
  have hval : ∀ (j : Nat) t v, Try.f4.params[j]? = some t → args[j]? = some v → Value.okWide Try.prog W .any base t v := hval0
  have hW' := hW
  obtain ⟨p, q, hA0, hV, rfl, hfz, hnd⟩ := hW
  have hA : DataW.TrodAll enc Try.prog W 0 (fun _ => true) true Try.f4.params.toList args.toList ds p := hA0
  rw [Try.params4] at hA hval
  obtain ⟨v0, vs0, d0, ds0, p0, q0, hargs, rfl, rfl, h0, r0⟩ := trodAll_cons hA
  obtain ⟨v1, vs1, d1, ds1, p1, q1, rfl, rfl, rfl, h1, r1⟩ := trodAll_cons r0
  obtain ⟨v2, vs2, d2, ds2, p2, q2, rfl, rfl, rfl, h2, r2⟩ := trodAll_cons r1
  obtain ⟨v3, vs3, d3, ds3, p3, q3, rfl, rfl, rfl, h3, r3⟩ := trodAll_cons r2
  obtain ⟨rfl, rfl, rfl⟩ := trodAll_nil r3
  obtain rfl : args = #[v0, v1, v2, v3] := by cases args; simp_all
  obtain ⟨rfl, rfl⟩ := trodVars_none hV
  have k0 := h0
  have lt0 : ∀ x ∈ p0, x.block < W.heap.size := by obtain ⟨m, hm⟩ := k0; exact DataW.trod_lt m _ _ _ hm
  obtain ⟨b0, l0, c0, rfl⟩ := okWide_slice Try.underlying52 (hval 0 52 v0 rfl rfl)
  obtain ⟨a0, cap0, z0, e0, w0, s0⟩ := open_events (enc := enc) (w := W) (v := .slice b0 l0 c0) (fuel := h0.choose) (by simpa [Value.cells] using h0.choose_spec) (fun n hn => by simpa using List.all_eq_true.1 hsz n (DataW.weights_mem_each (j := 0) rfl rfl n hn))
  rw [e0] at hval k0 h0 hW' hval0 hA0
  have k1 := h1
  have lt1 : ∀ x ∈ p1, x.block < W.heap.size := by obtain ⟨m, hm⟩ := k1; exact DataW.trod_lt m _ _ _ hm
  obtain ⟨a1, rfl, rfl, rfl, w1⟩ := open_int Try.underlying3 (hval 1 3 v1 rfl rfl) h1
  have k2 := h2
  have lt2 : ∀ x ∈ p2, x.block < W.heap.size := by obtain ⟨m, hm⟩ := k2; exact DataW.trod_lt m _ _ _ hm
  obtain ⟨a2, rfl, rfl, rfl, w2⟩ := open_int Try.underlying3 (hval 2 3 v2 rfl rfl) h2
  have k3 := h3
  have lt3 : ∀ x ∈ p3, x.block < W.heap.size := by obtain ⟨m, hm⟩ := k3; exact DataW.trod_lt m _ _ _ hm
  obtain ⟨a3, rfl, rfl, rfl, w3⟩ := open_int Try.underlying3 (hval 3 3 v3 rfl rfl) h3
  clear hA0 hval0
  rw [e0]; refine (walk a0 cap0 z0 a1 a2 a3 W w0 s0 w1 w2 w3).mono fun e W' ⟨he, bel⟩ => ?_
  subst he
  exact ⟨_, rfl, _, _, _, [], _, [], hW', trodAll_mk1 (shut_bool Try.underlying4 _), (trodAll_cons_mk (Below.trod laidOut (by kernel_rfl) (of_decide_eq_true (by kernel_rfl)) k0 bel lt0) (trodAll_cons_mk (Below.trod laidOut (by kernel_rfl) (of_decide_eq_true (by kernel_rfl)) k1 bel lt1) (trodAll_cons_mk (Below.trod laidOut (by kernel_rfl) (of_decide_eq_true (by kernel_rfl)) k2 bel lt2) (trodAll_cons_mk (Below.trod laidOut (by kernel_rfl) (of_decide_eq_true (by kernel_rfl)) k3 bel lt3) trodAll_mk0)))), rfl, bel.frame _, fun h => by cases h⟩

theorem over : Rows.pastOrderRow.holds Try.pinned (OpenSpec.ofChange Rows.pastOrderSpec) :=
  OpenClaim.holds_of_wide 4 Try.f4 rfl rfl rfl rfl rfl rfl rfl ⟨rfl, rfl, rfl, rfl, rfl⟩ rfl rfl rfl rfl rfl (by kernel_rfl) Try.func4 (by kernel_rfl)
    (of_decide_eq_true (by kernel_rfl)) (by unfold Func.isWrapper; first | (rw [if_pos (by decide +kernel)]; kernel_rfl) | (rw [if_neg (by decide +kernel)]; exact ⟨rfl, rfl⟩))
    (fun os started H enc _ => lifted os started H enc)

theorem pastOrderHolds : Rows.PastOrderSaid := over
#print axioms pastOrderHolds
end Go.Proofs.Ytijepfabkalcoaa.pastOrder
