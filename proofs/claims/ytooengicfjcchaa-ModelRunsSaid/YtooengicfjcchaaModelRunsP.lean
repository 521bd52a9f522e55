/- ModelRuns (P16.1, P16.2): a map made of up to 100 pairs has what comes of putting them one by one; to up to 200 operations, done one by one or through Run, and through a copy, each answer and each pair is the reference's; a copy goes its own way. Lengths within what the form may hand in. -/
import Derived.Test.YtooengicfjcchaaRows
import Derived.Test.YtooengicfjcchaaMdQ
import Derived.LoopTactic
import Derived.WalkKit
import Derived.ProofKit
import Derived.OpenShut
import Derived.ChangeOld
import Derived.Below
namespace Go.Proofs.Ytooengicfjcchaa.modelRuns
open Go.ChangeShapes Go.WideShapes Go.ChangeAt Go.RowKit
set_option linter.all false

theorem own : ownKnob Try.prog.godebug = none := by kernel_rfl
theorem laidOut : laidOutB Try.prog = true := by kernel_rfl

theorem mq_keep12 {W W' : World} {q0 q1 q2 q3 q4 q5 q6 q7 q8 q9 q10 q11 : Addr} {u0 u1 u2 u3 u4 u5 u6 u7 u8 u9 u10 u11 : Value} (h : W.cell? q0 = some u0 ∧ W.cell? q1 = some u1 ∧ W.cell? q2 = some u2 ∧ W.cell? q3 = some u3 ∧ W.cell? q4 = some u4 ∧ W.cell? q5 = some u5 ∧ W.cell? q6 = some u6 ∧ W.cell? q7 = some u7 ∧ W.cell? q8 = some u8 ∧ W.cell? q9 = some u9 ∧ W.cell? q10 = some u10 ∧ W.cell? q11 = some u11) (hb : Below W.heap.size W W') : W'.cell? q0 = some u0 ∧ W'.cell? q1 = some u1 ∧ W'.cell? q2 = some u2 ∧ W'.cell? q3 = some u3 ∧ W'.cell? q4 = some u4 ∧ W'.cell? q5 = some u5 ∧ W'.cell? q6 = some u6 ∧ W'.cell? q7 = some u7 ∧ W'.cell? q8 = some u8 ∧ W'.cell? q9 = some u9 ∧ W'.cell? q10 = some u10 ∧ W'.cell? q11 = some u11 := by
  obtain ⟨h0, h1, h2, h3, h4, h5, h6, h7, h8, h9, h10, h11⟩ := h
  exact ⟨cell_keep h0 hb, cell_keep h1 hb, cell_keep h2 hb, cell_keep h3 hb, cell_keep h4 hb, cell_keep h5 hb, cell_keep h6 hb, cell_keep h7 hb, cell_keep h8 hb, cell_keep h9 hb, cell_keep h10 hb, cell_keep h11 hb⟩

set_option maxRecDepth 100000 in
set_option maxHeartbeats 25600000 in
theorem walk (a0 : Option Addr) (cap0 : Nat) (z0 : List Pr) (a1 : Option Addr) (cap1 : Nat) (z1 : List OpD) (a2 : Option Addr) (cap2 : Nat) (z2 : List OpD) (w : World) (w0 : Prs w a0 cap0 z0) (w1 : Ops w a1 cap1 z1) (s1 : z1.length ≤ 8796093022208) (w2 : Ops w a2 cap2 z2) (s2 : z2.length ≤ 8796093022208) :
    Calls Try.prog 3 #[.slice a0 z0.length cap0, .slice a1 z1.length cap1, .slice a2 z2.length cap2] w fun e w' => e = .returned (.bool true) ∧ Below w.heap.size w w' := by
  have H0 := Lib.hid w0
  have H1 := Lib.hid w1
  have H2 := Lib.hid w2
  have hc := w0.1
  have hcm := w0.2.1
  have hc1 := w1.1
  have hcm1 := w1.2.1
  have hc2 := w2.1
  have hcm2 := w2.2.1
  unfold maxLen at hcm hcm1 hcm2
  clear w0 w1 w2
  have ca := fun W => awake_any W
  have hsum := sum2 s1 s2
  clear s1 s2
  by_cases hbig : 100 < z0.length
  · have hbig1 : (100 : Int) < (z0.length : Int) := by omega
    have hbig2 : decide ((100 : Int) < (z0.length : Int)) = true := decide_eq_true hbig1
    go_enter Try.func3, Try.ntmps3
    go_wp2_with (go_at_call 9; ((with_reducible refine (ca _).mono ?_); rintro e w3 ⟨rfl, hb⟩))
    go_ret
    exact ⟨rfl, hb⟩
  have hbig1 : ¬ (100 : Int) < (z0.length : Int) := by omega
  have hbig2 : decide ((100 : Int) < (z0.length : Int)) = false := decide_eq_false hbig1
  by_cases hbg : 200 < z1.length + z2.length
  · have hbg1 : (200 : Int) < (z1.length : Int) + (z2.length : Int) := by omega
    have hbg2 : decide ((200 : Int) < (z1.length : Int) + (z2.length : Int)) = true := decide_eq_true hbg1
    go_enter Try.func3, Try.ntmps3
    go_wp2_with (go_at_call 9; ((with_reducible refine (ca _).mono ?_); rintro e w3 ⟨rfl, hb⟩))
    go_ret
    exact ⟨rfl, hb⟩
  have hbg1 : ¬ (200 : Int) < (z1.length : Int) + (z2.length : Int) := by omega
  have hbg2 : decide ((200 : Int) < (z1.length : Int) + (z2.length : Int)) = false := decide_eq_false hbg1
  have HL : Hid (z0.length ≤ 100) := Lib.hid (by omega)
  have HLS : Hid (z1.length + z2.length ≤ 200) := Lib.hid (by omega)
  clear hbig hbg
  have cn := fun W h => new_any a0 cap0 z0 W h (by have := HL.out; omega)
  go_enter Try.func3, Try.ntmps3
  go_wp2_with (go_at_call 10; ((with_reducible refine (cn _ H0.out).mono ?_); clear cn; rintro e w2 ⟨b, rfl, hb0, hM, hB⟩; have HM := Lib.hid hM; have HB := Lib.hid hB; have HB0 : Hid (w.heap.size ≤ b ∧ ∀ j, (j < w.heap.size ∨ j = b) → j ≤ b) := Lib.hid ⟨hb0, fun j hj => hj.elim (fun hj => by omega) (fun hj => by omega)⟩; clear hb0 hM hB))
  go_loopw [8, 39] (fun x y wr => ∃ (i n : Nat) (ao : Option Addr) (cp : Nat) (L : List Pr), x = .slice ao n cp ∧ y = .int .i64 i ∧ n = L.length ∧ i ≤ z0.length ∧ n ≤ z0.length ∧ L = putsL (z0.take i) ∧ PRow wr (fun j => j ≤ b) (.slice ao n cp) L ∧ Below w2.heap.size w2 wr) (fun _ y _ => z0.length - (intOf y).toNat)
  case atStart => exact ⟨0, 0, none, 0, [], rfl, rfl, rfl, Nat.zero_le _, Nat.zero_le _, rfl, PRow.nil _ _, Below.refl _ _⟩
  case round =>
    obtain ⟨i, n, ao, cp, L, rfl, rfl, rfl, hi, hln, hL, hR, hb⟩ := hrel
    have HR := Lib.hid hR
    have HBR := Lib.hid hb
    have HLL := Lib.hid hL
    clear hR hb hL
    by_cases hlt : i < z0.length
    · obtain ⟨q, hq⟩ : ∃ q, z0[i]? = some q := ⟨_, List.getElem?_eq_getElem hlt⟩
      obtain ⟨ob, oo, rfl, q0, q1⟩ := (H0.out.below (bel2 HB.out HBR.out)).2.2.1 i q hq
      have HT := Lib.hid (putsL_take hq)
      have hlen := putsL_tl z0 (i + 1)
      rw [putsL_take hq, ← HLL.out] at hlen
      clear hq
      obtain ⟨x0, x1⟩ := q
      dsimp only at q0 q1 HT hlen
      have hltI : (i : Int) < (z0.length : Int) := by omega
      have cw := with_is ao cp L x0 x1 _ ((HR.out.prs rfl).below (bel1 (Below.refl _ wr) (.cells #[.int .i64 x0, .int .i64 x1] 28))) (by have := HL.out; omega)
      have HLn := Lib.hid hlen
      clear hlen
      go_wp2_with (go_at_call 11; ((with_reducible refine cw.mono ?_); clear cw; rintro e w3 ⟨⟨a3, c3, rfl, hR3, hb3⟩, -⟩; have HR3 := Lib.hid (hR3.next (b := b) (by have h1 := HM.out.lt; have h2 := HBR.out.size; simp; omega)); have HB3 := Lib.hid (bel2 (bel1 HBR.out (.cells #[.int .i64 x0, .int .i64 x1] 28)) hb3); clear hR3 hb3))
      go_roundw
      case rel => exact ⟨i + 1, _, a3, c3, withL L x0 x1, rfl, by go_num, rfl, hlt, HLn.out, by rw [HT.out, HLL.out], HR3.out, HB3.out⟩
      case measure => simp [intOf]; omega
    · obtain rfl : i = z0.length := by omega
      have hltI : ¬ (z0.length : Int) < (z0.length : Int) := by omega
      have hL := HLL.out
      rw [List.take_of_length_le (Nat.le_refl _)] at hL
      have HSRT : Hid (Srt L) := Lib.hid (by rw [hL]; exact putsL_srt z0)
      rw [← hL] at HM
      have HMR := Lib.hid (HM.out.below HBR.out)
      have HBB := Lib.hid (bel2 HB.out HBR.out)
      have HLN : Hid (L.length ≤ 100) := Lib.hid (by have := HL.out; omega)
      clear hL HLL HM HB HBR hln HL
      go_wp2_with (fail)
      refine (mpairs_any b _ L _ HMR.out (by have := HLN.out; omega)).mono ?_
      rintro e v1 ⟨a1', c1', rfl, hR1, hb1⟩
      have HR1 := Lib.hid hR1
      have HV1 := Lib.hid hb1
      clear hR1 hb1
      go_wp2_with (fail)
      refine (samep_any a1' ao c1' cp L L _ (HR1.out.prs rfl) ((HR.out.prs rfl).below HV1.out) true (decide_eq_true rfl)).mono ?_
      rintro e v2 ⟨rfl, hb2⟩
      have HV2 := Lib.hid (bel2 HV1.out hb2)
      clear hb2
      go_wp2_with (fail)
      go_loopw [8, 58] (fun x y wx => ∃ (i n : Nat) (ao : Option Addr) (cp : Nat) (R : List Pr), x = .slice ao n cp ∧ y = .int .i64 i ∧ n = R.length ∧ i ≤ z1.length ∧ R = runP L (z1.take i) ∧ PRow wx (fun j => j ≤ b) (.slice ao n cp) R ∧ MapAt wx (fun j => j < w.heap.size ∨ j = b) b R ∧ Below w.heap.size w wx) (fun _ y _ => z1.length - (intOf y).toNat)
      case atStart => exact ⟨0, _, ao, cp, L, rfl, rfl, rfl, Nat.zero_le _, rfl, HR.out.below HV2.out, HMR.out.below HV2.out, bel2 HBB.out HV2.out⟩
      case round =>
        clear HR HR1 HV1 HV2 HMR HBB
        obtain ⟨i, n, ao, cp, R, rfl, rfl, rfl, hi, hRe, hR, hM, hb⟩ := hrel
        have HR := Lib.hid hR
        have HMR := Lib.hid hM
        have HBB := Lib.hid hb
        have HRE := Lib.hid hRe
        have HRL : Hid (R.length ≤ 300) := Lib.hid (by rw [hRe]; have h1 := len_runs (L := L) (z := z1) i; have h2 := HLN.out; have h3 := HLS.out; omega)
        clear hR hM hb hRe
        by_cases hlt : i < z1.length
        · obtain ⟨q, hq⟩ : ∃ q, z1[i]? = some q := ⟨_, List.getElem?_eq_getElem hlt⟩
          obtain ⟨ob, oo, rfl, q0, q1, q2, q3⟩ := (H1.out.below HBB.out).2.2.1 i q hq
          have HWF := Lib.hid (H1.out.2.2.2 q (List.mem_of_getElem? hq))
          have HT := Lib.hid (runP_take (L := L) hq)
          clear hq
          have hltI : (i : Int) < (z1.length : Int) := by omega
          have hAC2 : AC ((wr.alloc (.cells #[.int .i64 q.c, .int .i64 q.k, .int .i64 q.h, .int .i64 q.v] 33)).alloc (.cells #[.int .i64 0, .bool false, .int .i64 0, .int .i64 0, .int .i64 0, .slice none 0 0] 36)) (wr.heap.size + 1) 0 false 0 0 0 (.slice none 0 0) := by have h := AC.new (wr.alloc (.cells #[.int .i64 q.c, .int .i64 q.k, .int .i64 q.h, .int .i64 q.v] 33)) 36; simp only [World.size_alloc] at h; exact h
          have hO2 : O4 wr.heap.size q.c q.k q.h q.v ((wr.alloc (.cells #[.int .i64 q.c, .int .i64 q.k, .int .i64 q.h, .int .i64 q.v] 33)).alloc (.cells #[.int .i64 0, .bool false, .int .i64 0, .int .i64 0, .int .i64 0, .slice none 0 0] 36)) := by constructor <;> simp
          have hB2 : Below wr.heap.size wr ((wr.alloc (.cells #[.int .i64 q.c, .int .i64 q.k, .int .i64 q.h, .int .i64 q.v] 33)).alloc (.cells #[.int .i64 0, .bool false, .int .i64 0, .int .i64 0, .int .i64 0, .slice none 0 0] 36)) := bel1 (al1 _) _
          have hz2 : ((wr.alloc (.cells #[.int .i64 q.c, .int .i64 q.k, .int .i64 q.h, .int .i64 q.v] 33)).alloc (.cells #[.int .i64 0, .bool false, .int .i64 0, .int .i64 0, .int .i64 0, .slice none 0 0] 36)).heap.size = wr.heap.size + 1 + 1 := by simp
          have HMX : Hid (MapAt wr (fun j => (j < w.heap.size ∨ j = b) ∨ j = wr.heap.size + 1) b R) := Lib.hid (HMR.out.sub (.inl (.inr rfl)) (fun k hk hs => hs.elim id (fun e => by omega)))
          have HRX : Hid (PRow wr (fun j => j ≤ b ∨ j = wr.heap.size + 1) (.slice ao R.length cp) R) := Lib.hid (HR.out.sub (fun k hk hs => hs.elim id (fun e => by omega)))
          have HSX : Hid (∀ j, ((j < w.heap.size ∨ j = b) ∨ j = wr.heap.size + 1) → j < wr.heap.size + 1 + 1) := Lib.hid (fun j hj => by have h1 := HBB.out.size; have h2 := HMR.out.lt; rcases hj with (hj | hj) | hj <;> omega)
          have HAC := Lib.hid hAC2
          have HOP := Lib.hid hO2
          have HB2 := Lib.hid hB2
          have HZ2 := Lib.hid hz2
          have hbl := HMR.out.lt
          have HBL := Lib.hid hbl
          clear hAC2 hO2 hB2 hz2 hbl
          have ce := mdo_any b _ R q.c q.k q.h q.v ((wr.alloc (.cells #[.int .i64 q.c, .int .i64 q.k, .int .i64 q.h, .int .i64 q.v] 33)).alloc (.cells #[.int .i64 0, .bool false, .int .i64 0, .int .i64 0, .int .i64 0, .slice none 0 0] 36)) (HMX.out.below HB2.out) (fun j hj => by rw [HZ2.out]; exact HSX.out j hj) (by have := HRL.out; omega)
          have co := mrun_any b _ R (some ⟨wr.heap.size + 1 + 1, 0, none⟩) 1 [q] (((wr.alloc (.cells #[.int .i64 q.c, .int .i64 q.k, .int .i64 q.h, .int .i64 q.v] 33)).alloc (.cells #[.int .i64 0, .bool false, .int .i64 0, .int .i64 0, .int .i64 0, .slice none 0 0] 36)).alloc (.cells #[.int .i64 q.c, .int .i64 q.k, .int .i64 q.h, .int .i64 q.v] 33)) ((HMX.out.below HB2.out).below (al1 _)) (fun j hj => by have h := HSX.out j hj; simp only [World.size_alloc]; omega) (by have h := ops1 ((wr.alloc (.cells #[.int .i64 q.c, .int .i64 q.k, .int .i64 q.h, .int .i64 q.v] 33)).alloc (.cells #[.int .i64 0, .bool false, .int .i64 0, .int .i64 0, .int .i64 0, .slice none 0 0] 36)) q HWF.out; simp only [World.size_alloc] at h; exact h) (fun ad e => by cases e; show ¬ wr.heap.size + 1 + 1 = b; have := HBL.out; omega) (by have := HRL.out; simp only [List.length_cons, List.length_nil]; omega) (by simp)
          unfold MDoIs Ad.val at ce
          unfold RunIs at co
          dsimp only [List.length_cons, List.length_nil, Nat.zero_add] at co
          rw [show runA R [q] = [doA R q.c q.k q.h] from rfl, show runP R [q] = doP R q.c q.k q.v from rfl] at co
          have cd := fun W hw => rdo_any ao cp R q.c q.k q.h q.v W hw (by have := HRL.out; omega)
          unfold DoIs Ad.val at cd
          have HD := Lib.hid (show runP L (z1.take (i + 1)) = doP R q.c q.k q.v by rw [HT.out, HRE.out])
          have HDL : Hid ((doP R q.c q.k q.v).length ≤ 301) := Lib.hid (by have h1 := doP_le R q.c q.k q.v; have h2 := HRL.out; omega)
          generalize doA R q.c q.k q.h = D at ce co cd
          generalize doP R q.c q.k q.v = R2 at ce co cd HD HDL
          clear HT HMX
          go_wp2_with (fail)
          · clear q0 q1 q2 q3
            refine ce.mono ?_
            rintro e w4 ⟨aa, ca1, rfl, hM4, hT4, hO4⟩
            have HM4 := Lib.hid hM4
            have hac := HAC.out.only hO4 (show ¬ (wr.heap.size + 1 = b) from by have := HBL.out; omega)
            have HA4 := Lib.hid hac
            have HOP4 := Lib.hid (HOP.out.only hO4 (show ¬ (wr.heap.size = b) from by have := HBL.out; omega))
            have HR4 : Hid (PRow w4 (fun j => j ≤ b ∨ j = wr.heap.size + 1) (.slice ao R.length cp) R) := Lib.hid (by
              have h := HRX.out.below HB2.out
              exact ⟨hO4.row h.row (fun k hk e => h.av k hk (.inl (Nat.le_of_eq e))), h.av⟩)
            have HT4 := Lib.hid hT4
            have HB4 : Hid (Below w.heap.size w w4) := Lib.hid (by
              have h := bel2 HBB.out HB2.out
              exact h.trans (hO4.below (fun i hi => by have h1 := HB0.out.1; show w.heap.size ≤ i; omega) h.size))
            obtain ⟨z0', z1', z2', z3', z4', z5', f0', f1', f2', f3', f4', f5'⟩ := hac
            obtain ⟨p0, p1, p2, p3⟩ := HOP4.out
            clear hT4 hM4 hO4 co HRX
            go_wp2_with (fail)
            clear z0' z1' z2' z3' z4' z5' f0' f1' f2' f3' f4' f5' p0 p1 p2 p3
            obtain ⟨W5, hW5, a5, b5⟩ := HA4.out.put D.err D.ok D.k D.v D.n (.slice aa D.ps.length ca1)
            have o5 := putO hW5
            rw [← hW5]
            clear hW5
            have HA5 := Lib.hid a5
            have HM5 := Lib.hid (HM4.out.only o5 (show ¬ (b = wr.heap.size + 1) from by have := HBL.out; omega) (fun k hk => .inr hk))
            have HR5 : Hid (PRow W5 (fun j => j ≤ b ∨ j = wr.heap.size + 1) (.slice ao R.length cp) R) := Lib.hid ⟨o5.row (HR4.out.row) (fun k hk e => HR4.out.av k hk (.inr e)), HR4.out.av⟩
            have HP5 : Hid (Prs W5 aa ca1 D.ps) := Lib.hid (PRow.prs (S := fun j => j = wr.heap.size + 1) ⟨o5.row HT4.out.row (fun k hk e => HT4.out.av k hk (by simp only [World.size_alloc]; omega)), fun k hk e => HT4.out.av k hk (by simp only [World.size_alloc]; omega)⟩ rfl)
            have HO5 := Lib.hid (HOP4.out.only o5 (show ¬ (wr.heap.size = wr.heap.size + 1) from by omega))
            have HB5 : Hid (Below w.heap.size w W5) := Lib.hid (HB4.out.trans (o5.below (fun i hi => by have h1 := HBB.out.size; show w.heap.size ≤ i; omega) HB4.out.size))
            clear a5 b5 o5 HA4 HM4 HR4 HT4 HOP4 HB4
            refine (cd _ (HR5.out.prs rfl)).mono ?_
            clear cd
            rintro e w6 ⟨a6, c6, aa6, c6a, rfl, hR6, hT6, hb6⟩
            have HZ6 := Lib.hid ((HA5.out.keep hb6).keep (al1 (.cells #[.int .i64 D.err, .bool D.ok, .int .i64 D.k, .int .i64 D.v, .int .i64 D.n, .slice aa6 D.ps.length c6a] 36)))
            obtain ⟨z0', z1', z2', z3', z4', z5', -, -, -, -, -, -⟩ := HZ6.out
            have HR6 := Lib.hid (hR6.below (al1 (.cells #[.int .i64 D.err, .bool D.ok, .int .i64 D.k, .int .i64 D.v, .int .i64 D.n, .slice aa6 D.ps.length c6a] 36)))
            have HT6 := Lib.hid (hT6.below (al1 (.cells #[.int .i64 D.err, .bool D.ok, .int .i64 D.k, .int .i64 D.v, .int .i64 D.n, .slice aa6 D.ps.length c6a] 36)))
            have HB6 := Lib.hid (bel1 hb6 (.cells #[.int .i64 D.err, .bool D.ok, .int .i64 D.k, .int .i64 D.v, .int .i64 D.n, .slice aa6 D.ps.length c6a] 36))
            have HW56 : Hid (b < W5.heap.size) := Lib.hid HM5.out.lt
            clear hR6 hT6 hb6 HZ6
            have cs := fun W h1 h2 => rsame_ans D D aa aa6 ca1 c6a W h1 h2 true (decide_eq_true (AdEq.refl _))
            unfold Ad.val at cs
            go_wp2_with (fail)
            refine (cs _ (HP5.out.below HB6.out) (HT6.out.prs rfl)).mono ?_
            clear cs z0' z1' z2' z3' z4' z5'
            rintro e w7 ⟨rfl, hb7⟩
            have HB7 := Lib.hid (bel2 HB6.out hb7)
            have HR7 := Lib.hid (HR6.out.below hb7)
            clear hb7
            go_wp2_with (fail)
            refine (mpairs_any b _ R2 _ (HM5.out.below HB7.out) (by have := HDL.out; omega)).mono ?_
            rintro e w8 ⟨a8, c8, rfl, hR8, hb8⟩
            have HR8 := Lib.hid hR8
            have HB8 := Lib.hid (bel2 HB7.out hb8)
            have HR78 := Lib.hid (HR7.out.below hb8)
            clear hR8 hb8
            go_wp2_with (fail)
            refine (samep_any a8 a6 c8 c6 R2 R2 _ (HR8.out.prs rfl) (HR78.out.prs rfl) true (decide_eq_true rfl)).mono ?_
            rintro e w9 ⟨rfl, hb9⟩
            have HB9 := Lib.hid (bel2 HB8.out hb9)
            have HR9 := Lib.hid (HR78.out.below hb9)
            clear hb9
            go_wp2_with (fail)
            refine (mlen_any b _ R2 _ (HM5.out.below HB9.out)).mono ?_
            rintro e v9 ⟨rfl, rfl⟩
            go_wp2_with (fail)
            go_roundw
            case rel => exact ⟨i + 1, _, a6, c6, R2, rfl, by go_num, rfl, hlt, HD.out.symm, HR9.out.sub (fun k _ hk => Nat.lt_of_le_of_lt hk HW56.out), (HM5.out.below HB9.out).sub (.inr rfl) (fun k _ hk => .inl hk), bel2 HB5.out HB9.out⟩
            case measure => simp [intOf]; omega
          · clear q0 q1 q2 q3
            refine co.mono ?_
            rintro e w4 ⟨rfl, hT, hM4, hO4⟩
            obtain ⟨aa, ca1, hA⟩ := hT.at_ 0 _ rfl (by decide)
            have HM4 := Lib.hid hM4
            have hac := (HAC.out.keep (al1 (.cells #[.int .i64 q.c, .int .i64 q.k, .int .i64 q.h, .int .i64 q.v] 33))).only hO4 (show ¬ (wr.heap.size + 1 = b) from by have := HBL.out; omega)
            have HA4 := Lib.hid hac
            have HOP4 := Lib.hid ((HOP.out.keep (al1 (.cells #[.int .i64 q.c, .int .i64 q.k, .int .i64 q.h, .int .i64 q.v] 33))).only hO4 (show ¬ (wr.heap.size = b) from by have := HBL.out; omega))
            have HR4 : Hid (PRow w4 (fun j => j ≤ b ∨ j = wr.heap.size + 1) (.slice ao R.length cp) R) := Lib.hid (by
              have h := (HRX.out.below HB2.out).below (al1 (.cells #[.int .i64 q.c, .int .i64 q.k, .int .i64 q.h, .int .i64 q.v] 33))
              exact ⟨hO4.row h.row (fun k hk e => h.av k hk (.inl (Nat.le_of_eq e))), h.av⟩)
            have HT4 := Lib.hid hA.row
            have HB4 : Hid (Below w.heap.size w w4) := Lib.hid (by
              have h := bel2 (bel2 HBB.out HB2.out) (al1 (.cells #[.int .i64 q.c, .int .i64 q.k, .int .i64 q.h, .int .i64 q.v] 33))
              exact h.trans (hO4.below (fun i hi => by have h1 := HB0.out.1; show w.heap.size ≤ i; omega) h.size))
            obtain ⟨c0, c1, c2, c3, c4, c5, -⟩ := hA
            obtain ⟨z0', z1', z2', z3', z4', z5', f0', f1', f2', f3', f4', f5'⟩ := hac
            obtain ⟨p0, p1, p2, p3⟩ := HOP4.out
            simp only [World.size_alloc] at c0 c1 c2 c3 c4 c5
            clear hT hM4 hO4 ce HRX
            go_wp2_with (fail)
            clear c0 c1 c2 c3 c4 c5 z0' z1' z2' z3' z4' z5' f0' f1' f2' f3' f4' f5' p0 p1 p2 p3
            obtain ⟨W5, hW5, a5, b5⟩ := HA4.out.put D.err D.ok D.k D.v D.n (.slice aa D.ps.length ca1)
            have o5 := putO hW5
            rw [← hW5]
            clear hW5
            have HA5 := Lib.hid a5
            have HM5 := Lib.hid (HM4.out.only o5 (show ¬ (b = wr.heap.size + 1) from by have := HBL.out; omega) (fun k hk => .inr hk))
            have HR5 : Hid (PRow W5 (fun j => j ≤ b ∨ j = wr.heap.size + 1) (.slice ao R.length cp) R) := Lib.hid ⟨o5.row (HR4.out.row) (fun k hk e => HR4.out.av k hk (.inr e)), HR4.out.av⟩
            have HP5 : Hid (Prs W5 aa ca1 D.ps) := Lib.hid (PRow.prs (S := fun j => j = wr.heap.size + 1) ⟨o5.row HT4.out.row (fun k hk e => HT4.out.av k hk (.inl (by simp only [World.size_alloc]; omega))), fun k hk e => HT4.out.av k hk (.inl (by simp only [World.size_alloc]; omega))⟩ rfl)
            have HO5 := Lib.hid (HOP4.out.only o5 (show ¬ (wr.heap.size = wr.heap.size + 1) from by omega))
            have HB5 : Hid (Below w.heap.size w W5) := Lib.hid (HB4.out.trans (o5.below (fun i hi => by have h1 := HBB.out.size; show w.heap.size ≤ i; omega) HB4.out.size))
            clear a5 b5 o5 HA4 HM4 HR4 HT4 HOP4 HB4
            refine (cd _ (HR5.out.prs rfl)).mono ?_
            clear cd
            rintro e w6 ⟨a6, c6, aa6, c6a, rfl, hR6, hT6, hb6⟩
            have HZ6 := Lib.hid ((HA5.out.keep hb6).keep (al1 (.cells #[.int .i64 D.err, .bool D.ok, .int .i64 D.k, .int .i64 D.v, .int .i64 D.n, .slice aa6 D.ps.length c6a] 36)))
            obtain ⟨z0', z1', z2', z3', z4', z5', -, -, -, -, -, -⟩ := HZ6.out
            have HR6 := Lib.hid (hR6.below (al1 (.cells #[.int .i64 D.err, .bool D.ok, .int .i64 D.k, .int .i64 D.v, .int .i64 D.n, .slice aa6 D.ps.length c6a] 36)))
            have HT6 := Lib.hid (hT6.below (al1 (.cells #[.int .i64 D.err, .bool D.ok, .int .i64 D.k, .int .i64 D.v, .int .i64 D.n, .slice aa6 D.ps.length c6a] 36)))
            have HB6 := Lib.hid (bel1 hb6 (.cells #[.int .i64 D.err, .bool D.ok, .int .i64 D.k, .int .i64 D.v, .int .i64 D.n, .slice aa6 D.ps.length c6a] 36))
            have HW56 : Hid (b < W5.heap.size) := Lib.hid HM5.out.lt
            clear hR6 hT6 hb6 HZ6
            have cs := fun W h1 h2 => rsame_ans D D aa aa6 ca1 c6a W h1 h2 true (decide_eq_true (AdEq.refl _))
            unfold Ad.val at cs
            go_wp2_with (fail)
            refine (cs _ (HP5.out.below HB6.out) (HT6.out.prs rfl)).mono ?_
            clear cs z0' z1' z2' z3' z4' z5'
            rintro e w7 ⟨rfl, hb7⟩
            have HB7 := Lib.hid (bel2 HB6.out hb7)
            have HR7 := Lib.hid (HR6.out.below hb7)
            clear hb7
            go_wp2_with (fail)
            refine (mpairs_any b _ R2 _ (HM5.out.below HB7.out) (by have := HDL.out; omega)).mono ?_
            rintro e w8 ⟨a8, c8, rfl, hR8, hb8⟩
            have HR8 := Lib.hid hR8
            have HB8 := Lib.hid (bel2 HB7.out hb8)
            have HR78 := Lib.hid (HR7.out.below hb8)
            clear hR8 hb8
            go_wp2_with (fail)
            refine (samep_any a8 a6 c8 c6 R2 R2 _ (HR8.out.prs rfl) (HR78.out.prs rfl) true (decide_eq_true rfl)).mono ?_
            rintro e w9 ⟨rfl, hb9⟩
            have HB9 := Lib.hid (bel2 HB8.out hb9)
            have HR9 := Lib.hid (HR78.out.below hb9)
            clear hb9
            go_wp2_with (fail)
            refine (mlen_any b _ R2 _ (HM5.out.below HB9.out)).mono ?_
            rintro e v9 ⟨rfl, rfl⟩
            go_wp2_with (fail)
            go_roundw
            case rel => exact ⟨i + 1, _, a6, c6, R2, rfl, by go_num, rfl, hlt, HD.out.symm, HR9.out.sub (fun k _ hk => Nat.lt_of_le_of_lt hk HW56.out), (HM5.out.below HB9.out).sub (.inr rfl) (fun k _ hk => .inl hk), bel2 HB5.out HB9.out⟩
            case measure => simp [intOf]; omega
        · obtain rfl : i = z1.length := by omega
          have hltI : ¬ (z1.length : Int) < (z1.length : Int) := by omega
          rw [List.take_of_length_le (Nat.le_refl _)] at HRE
          clear HRE H1
          go_wp2_with (fail)
          refine (mcopy_any b _ R _ HMR.out (by have := HRL.out; omega)).mono ?_
          rintro e w3 ⟨b3, rfl, hb3, hM3, hB3⟩
          have HM3 := Lib.hid hM3
          have HB3 := Lib.hid hB3
          have HB03 := Lib.hid hb3
          have HMX := Lib.hid ((HMR.out.sub (S' := fun j => (j < w.heap.size ∨ j = b) ∨ j = b3) (.inl (.inr rfl)) (fun k hk hs => hs.elim id (fun e => by omega))).below hB3)
          have HRX := Lib.hid ((HR.out.sub (S' := fun j => j ≤ b ∨ j = b3) (fun k hk hs => hs.elim id (fun e => by omega))).below hB3)
          have HBX := Lib.hid (bel2 HBB.out hB3)
          clear hM3 hB3 hb3
          have cr := mrun_all b3 _ R a2 cap2 z2 w3 HM3.out (fun j hj => by have h1 := HB3.out.size; have h2 := HM3.out.lt; rcases hj with hj | hj <;> omega) (H2.out.below HBX.out) (fun n q hq ad e => by
              obtain ⟨bb, oo, e2, h0, -⟩ := H2.out.2.2.1 n q hq
              rw [e] at e2
              cases e2
              have h1 := World.block_lt_of_cell? _ _ h0
              have h2 := HB03.out
              have h3 := HBB.out.size
              show ¬ bb = b3
              simp only at h1
              omega) (by have h1 := HRL.out; have h2 := HLS.out; omega) (by have h2 := HLS.out; omega)
          unfold RunIs at cr
          go_wp2_with (fail)
          refine cr.mono ?_
          clear cr
          rintro e w4 ⟨rfl, hT4, hM4, hO4⟩
          have HT4 := Lib.hid hT4
          have HM4 := Lib.hid hM4
          have HMX4 := Lib.hid (HMX.out.only hO4 (show ¬ (b = b3) from by have h1 := HMR.out.lt; have h2 := HB03.out; omega) (fun k hk => .inr hk))
          have HRX4 : Hid (PRow w4 (fun j => j ≤ b ∨ j = b3) (.slice ao R.length cp) R) := Lib.hid ⟨hO4.row HRX.out.row (fun k hk e => HRX.out.av k hk (.inr e)), HRX.out.av⟩
          have HB4 : Hid (Below w.heap.size w w4) := Lib.hid (HBX.out.trans (hO4.below (fun i hi => by have h1 := HB03.out; have h2 := HBB.out.size; show w.heap.size ≤ i; omega) HBX.out.size))
          clear hT4 hM4 hO4 HMX HRX HBX HM3 HB3 HB03
          go_wp2_with (fail)
          refine (mpairs_any b _ R _ HMX4.out (by have := HRL.out; omega)).mono ?_
          rintro e v1 ⟨a1', c1', rfl, hR1, hb1⟩
          have HR1 := Lib.hid hR1
          have HV1 := Lib.hid hb1
          clear hR1 hb1
          go_wp2_with (fail)
          refine (samep_any a1' ao c1' cp R R _ (HR1.out.prs rfl) ((HRX4.out.prs rfl).below HV1.out) true (decide_eq_true rfl)).mono ?_
          rintro e v2 ⟨rfl, hb2⟩
          have HV2 := Lib.hid (bel2 HV1.out hb2)
          clear hb2 HV1 HR1
          have HPW := Lib.hid ((HRX4.out.prs rfl).below HV2.out)
          have HT5 := Lib.hid (HT4.out.below HV2.out)
          have HM5 := Lib.hid (HM4.out.below HV2.out)
          have HB5 := Lib.hid (bel2 HB4.out HV2.out)
          clear HRX4 HMX4 HT4 HM4 HB4 HV2 HMR HR HBB
          obtain ⟨g9, hg9⟩ : ∃ g, w3.heap.size = g := ⟨_, rfl⟩
          rw [hg9] at HT5 ⊢
          clear hg9
          go_wp2_with (fail)
          go_loopw [8, 125] (fun x y wx => ∃ (j n : Nat) (ao : Option Addr) (cp : Nat) (Q : List Pr), x = .slice ao n cp ∧ y = .int .i64 j ∧ n = Q.length ∧ j ≤ z2.length ∧ Q = runP R (z2.take j) ∧ Prs wx ao cp Q ∧ Below v2.heap.size v2 wx) (fun _ y _ => z2.length - (intOf y).toNat)
          case atStart => exact ⟨0, _, ao, cp, R, rfl, rfl, rfl, Nat.zero_le _, rfl, HPW.out, Below.refl _ _⟩
          case round =>
            clear HPW
            obtain ⟨j, n, ao, cp, Q, rfl, rfl, rfl, hj, hQe, hP, hb⟩ := hrel
            have HPW := Lib.hid hP
            have HBJ := Lib.hid hb
            have HQE := Lib.hid hQe
            have HQL : Hid (Q.length ≤ 600) := Lib.hid (by rw [hQe]; have h1 := len_runs (L := R) (z := z2) j; have h2 := HRL.out; have h3 := HLS.out; omega)
            clear hP hb hQe
            by_cases hlt2 : j < z2.length
            · obtain ⟨q, hq⟩ : ∃ q, z2[j]? = some q := ⟨_, List.getElem?_eq_getElem hlt2⟩
              obtain ⟨ob2, oo2, rfl, q0, q1, q2, q3⟩ := (H2.out.below (bel2 HB5.out HBJ.out)).2.2.1 j q hq
              have HD : Hid (runP R (z2.take (j + 1)) = doP Q q.c q.k q.v) := Lib.hid (by rw [runP_take hq, HQE.out])
              have hAT := runA_at (L := R) hq
              rw [← HQE.out] at hAT
              obtain ⟨aa, ca1, hAA⟩ := (HT5.out.below HBJ.out).at_ j _ hAT hlt2
              clear hq hAT
              have hltI2 : (j : Int) < (z2.length : Int) := by omega
              have hj0 : (0 : Int) ≤ (j : Int) := by omega
              have cd := fun W hw => rdo_any ao cp Q q.c q.k q.h q.v W hw (by have := HQL.out; omega)
              unfold DoIs Ad.val at cd
              generalize doA Q q.c q.k q.h = D at cd hAA
              generalize doP Q q.c q.k q.v = Q2 at cd HD
              have HAA := Lib.hid hAA
              clear hAA
              go_wp2_with (fail)
              refine (cd _ (HPW.out.below (al1 (.cells #[.int .i64 q.c, .int .i64 q.k, .int .i64 q.h, .int .i64 q.v] 33)))).mono ?_
              clear cd q0 q1 q2 q3
              rintro e w6 ⟨a6, c6, aa6, c6a, rfl, hR6, hT6, hb6⟩
              have hbx := bel2 (bel2 (al1 (w := wr) (.cells #[.int .i64 q.c, .int .i64 q.k, .int .i64 q.h, .int .i64 q.v] 33)) hb6) (al1 (.cells #[.int .i64 D.err, .bool D.ok, .int .i64 D.k, .int .i64 D.v, .int .i64 D.n, .slice aa6 D.ps.length c6a] 36))
              have HPA := Lib.hid ((HAA.out.row.prs rfl).below hbx)
              have HPT := Lib.hid ((hT6.below (al1 (.cells #[.int .i64 D.err, .bool D.ok, .int .i64 D.k, .int .i64 D.v, .int .i64 D.n, .slice aa6 D.ps.length c6a] 36))).prs rfl)
              have HPQ := Lib.hid ((hR6.below (al1 (.cells #[.int .i64 D.err, .bool D.ok, .int .i64 D.k, .int .i64 D.v, .int .i64 D.n, .slice aa6 D.ps.length c6a] 36))).prs rfl)
              have HSS : Hid ((w6.alloc (.cells #[.int .i64 D.err, .bool D.ok, .int .i64 D.k, .int .i64 D.v, .int .i64 D.n, .slice aa6 D.ps.length c6a] 36)).cell? ⟨g9, j * 6, none⟩ = some (.int .i64 D.err) ∧ (w6.alloc (.cells #[.int .i64 D.err, .bool D.ok, .int .i64 D.k, .int .i64 D.v, .int .i64 D.n, .slice aa6 D.ps.length c6a] 36)).cell? ⟨g9, j * 6 + 1, none⟩ = some (.bool D.ok) ∧ (w6.alloc (.cells #[.int .i64 D.err, .bool D.ok, .int .i64 D.k, .int .i64 D.v, .int .i64 D.n, .slice aa6 D.ps.length c6a] 36)).cell? ⟨g9, j * 6 + 2, none⟩ = some (.int .i64 D.k) ∧ (w6.alloc (.cells #[.int .i64 D.err, .bool D.ok, .int .i64 D.k, .int .i64 D.v, .int .i64 D.n, .slice aa6 D.ps.length c6a] 36)).cell? ⟨g9, j * 6 + 3, none⟩ = some (.int .i64 D.v) ∧ (w6.alloc (.cells #[.int .i64 D.err, .bool D.ok, .int .i64 D.k, .int .i64 D.v, .int .i64 D.n, .slice aa6 D.ps.length c6a] 36)).cell? ⟨g9, j * 6 + 4, none⟩ = some (.int .i64 D.n) ∧ (w6.alloc (.cells #[.int .i64 D.err, .bool D.ok, .int .i64 D.k, .int .i64 D.v, .int .i64 D.n, .slice aa6 D.ps.length c6a] 36)).cell? ⟨g9, j * 6 + 5, none⟩ = some (.slice aa D.ps.length ca1) ∧ (w6.alloc (.cells #[.int .i64 D.err, .bool D.ok, .int .i64 D.k, .int .i64 D.v, .int .i64 D.n, .slice aa6 D.ps.length c6a] 36)).cell? ⟨w6.heap.size, 0, none⟩ = some (.int .i64 D.err) ∧ (w6.alloc (.cells #[.int .i64 D.err, .bool D.ok, .int .i64 D.k, .int .i64 D.v, .int .i64 D.n, .slice aa6 D.ps.length c6a] 36)).cell? ⟨w6.heap.size, 1, none⟩ = some (.bool D.ok) ∧ (w6.alloc (.cells #[.int .i64 D.err, .bool D.ok, .int .i64 D.k, .int .i64 D.v, .int .i64 D.n, .slice aa6 D.ps.length c6a] 36)).cell? ⟨w6.heap.size, 2, none⟩ = some (.int .i64 D.k) ∧ (w6.alloc (.cells #[.int .i64 D.err, .bool D.ok, .int .i64 D.k, .int .i64 D.v, .int .i64 D.n, .slice aa6 D.ps.length c6a] 36)).cell? ⟨w6.heap.size, 3, none⟩ = some (.int .i64 D.v) ∧ (w6.alloc (.cells #[.int .i64 D.err, .bool D.ok, .int .i64 D.k, .int .i64 D.v, .int .i64 D.n, .slice aa6 D.ps.length c6a] 36)).cell? ⟨w6.heap.size, 4, none⟩ = some (.int .i64 D.n) ∧ (w6.alloc (.cells #[.int .i64 D.err, .bool D.ok, .int .i64 D.k, .int .i64 D.v, .int .i64 D.n, .slice aa6 D.ps.length c6a] 36)).cell? ⟨w6.heap.size, 5, none⟩ = some (.slice aa6 D.ps.length c6a)) := Lib.hid ⟨cell_keep HAA.out.c0 hbx, cell_keep HAA.out.c1 hbx, cell_keep HAA.out.c2 hbx, cell_keep HAA.out.c3 hbx, cell_keep HAA.out.c4 hbx, cell_keep HAA.out.c5 hbx, by simp, by simp, by simp, by simp, by simp, by simp⟩
              have HB6 := Lib.hid (bel2 HBJ.out hbx)
              have cs := fun W h1 h2 => rsame_ans D D aa aa6 ca1 c6a W h1 h2 true (decide_eq_true (AdEq.refl _))
              unfold Ad.val at cs
              clear hbx hR6 hT6 hb6 HAA
              go_wp2_with (fail)
              generalize w6.alloc (.cells #[.int .i64 D.err, .bool D.ok, .int .i64 D.k, .int .i64 D.v, .int .i64 D.n, .slice aa6 D.ps.length c6a] 36) = W66 at *
              refine wp_region_held_drew (S := (fun W => W.cell? ⟨g9, j * 6, none⟩ = some (.int .i64 D.err) ∧ W.cell? ⟨g9, j * 6 + 1, none⟩ = some (.bool D.ok) ∧ W.cell? ⟨g9, j * 6 + 2, none⟩ = some (.int .i64 D.k) ∧ W.cell? ⟨g9, j * 6 + 3, none⟩ = some (.int .i64 D.v) ∧ W.cell? ⟨g9, j * 6 + 4, none⟩ = some (.int .i64 D.n) ∧ W.cell? ⟨g9, j * 6 + 5, none⟩ = some (.slice aa D.ps.length ca1) ∧ W.cell? ⟨w6.heap.size, 0, none⟩ = some (.int .i64 D.err) ∧ W.cell? ⟨w6.heap.size, 1, none⟩ = some (.bool D.ok) ∧ W.cell? ⟨w6.heap.size, 2, none⟩ = some (.int .i64 D.k) ∧ W.cell? ⟨w6.heap.size, 3, none⟩ = some (.int .i64 D.v) ∧ W.cell? ⟨w6.heap.size, 4, none⟩ = some (.int .i64 D.n) ∧ W.cell? ⟨w6.heap.size, 5, none⟩ = some (.slice aa6 D.ps.length c6a))) (by kernel_rfl) (by first | exact HSS.out) (fun hHeld => ?_)
              refine wpAnyH_take (i := 0) (v := ?_) rfl (by kernel_rfl) (by kernel_rfl) (by kernel_rfl) (fun _ _ _ h => h) (Or.inl ⟨by rfl, ?_⟩) hHeld ?_
              rotate_left
              · (intro wS hSw; (obtain ⟨s0, s1, s2, s3, s4, s5, s6, s7, s8, s9, s10, s11⟩ := hSw); go_simp; try with_reducible rfl)
              try simp only [List.getElem_toArray, List.getElem_cons_succ, List.getElem_cons_zero, Act.put, List.setIfInBounds_toArray, List.set_cons_zero, List.set_cons_succ]
              refine wpAnyH_take (i := 1) (v := ?_) rfl (by kernel_rfl) (by kernel_rfl) (by kernel_rfl) (fun _ _ _ h => h) (Or.inl ⟨by rfl, ?_⟩) hHeld ?_
              rotate_left
              · (intro wS hSw; (obtain ⟨s0, s1, s2, s3, s4, s5, s6, s7, s8, s9, s10, s11⟩ := hSw); go_simp; try with_reducible rfl)
              try simp only [List.getElem_toArray, List.getElem_cons_succ, List.getElem_cons_zero, Act.put, List.setIfInBounds_toArray, List.set_cons_zero, List.set_cons_succ]
              refine wpAnyH_take (i := 2) (v := ?_) rfl (by kernel_rfl) (by kernel_rfl) (by kernel_rfl) (fun _ _ _ h => h) (Or.inl ⟨by rfl, ?_⟩) hHeld ?_
              rotate_left
              · (intro wS hSw; (obtain ⟨s0, s1, s2, s3, s4, s5, s6, s7, s8, s9, s10, s11⟩ := hSw); go_simp; try with_reducible rfl)
              try simp only [List.getElem_toArray, List.getElem_cons_succ, List.getElem_cons_zero, Act.put, List.setIfInBounds_toArray, List.set_cons_zero, List.set_cons_succ]
              refine wpAnyH_take (i := 3) (v := ?_) rfl (by kernel_rfl) (by kernel_rfl) (by kernel_rfl) (fun _ _ _ h => h) (Or.inl ⟨by rfl, ?_⟩) hHeld ?_
              rotate_left
              · (intro wS hSw; (obtain ⟨s0, s1, s2, s3, s4, s5, s6, s7, s8, s9, s10, s11⟩ := hSw); go_simp; try with_reducible rfl)
              try simp only [List.getElem_toArray, List.getElem_cons_succ, List.getElem_cons_zero, Act.put, List.setIfInBounds_toArray, List.set_cons_zero, List.set_cons_succ]
              refine wpAnyH_take (i := 4) (v := ?_) rfl (by kernel_rfl) (by kernel_rfl) (by kernel_rfl) (fun _ _ _ h => h) (Or.inl ⟨by rfl, ?_⟩) hHeld ?_
              rotate_left
              · (intro wS hSw; (obtain ⟨s0, s1, s2, s3, s4, s5, s6, s7, s8, s9, s10, s11⟩ := hSw); go_simp; try with_reducible rfl)
              try simp only [List.getElem_toArray, List.getElem_cons_succ, List.getElem_cons_zero, Act.put, List.setIfInBounds_toArray, List.set_cons_zero, List.set_cons_succ]
              refine wpAnyH_ready (rs := [5]) (by kernel_rfl) (by simp) ?_
              refine AllReadyH.cons rfl (fun K hK => ?_) AllReadyH.nil
              go_simp
              go_at_call 17; ((with_reducible refine (cs _ (HPA.out.below ((Below.refl _ _).drew)) (HPT.out.below ((Below.refl _ _).drew))).mono ?_); rintro e w7 ⟨rfl, hb7⟩; have HB7 : Hid (Below W66.heap.size W66 w7) := Lib.hid (((Below.refl _ _).drew).trans hb7); clear hb7)
              refine hK.out _ _ ?_ (fun hNext => ?_)
              · exact mq_keep12 HSS.out HB7.out
              clear hK K hHeld
              have hHeld := hNext
              clear hNext
              try simp only [List.getElem_toArray, List.getElem_cons_succ, List.getElem_cons_zero, Act.put, List.setIfInBounds_toArray, List.set_cons_zero, List.set_cons_succ]
              refine wpAnyH_take (i := 6) (v := ?_) rfl (by kernel_rfl) (by kernel_rfl) (by kernel_rfl) (fun _ _ _ h => h) (Or.inl ⟨by rfl, ?_⟩) hHeld ?_
              rotate_left
              · (intro wS hSw; (obtain ⟨s0, s1, s2, s3, s4, s5, s6, s7, s8, s9, s10, s11⟩ := hSw); go_simp; try with_reducible rfl)
              try simp only [List.getElem_toArray, List.getElem_cons_succ, List.getElem_cons_zero, Act.put, List.setIfInBounds_toArray, List.set_cons_zero, List.set_cons_succ]
              refine wpAnyH_done (by kernel_rfl) ?_ _
              go_wp2_with (fail)
              go_roundw
              case rel => exact ⟨j + 1, _, a6, c6, Q2, rfl, by go_num, rfl, hlt2, HD.out.symm, HPQ.out.below HB7.out, bel2 HB6.out HB7.out⟩
              case measure => simp [intOf]; omega
            · obtain rfl : j = z2.length := by omega
              have hltI2 : ¬ (z2.length : Int) < (z2.length : Int) := by omega
              have hqe := HQE.out
              rw [List.take_of_length_le (Nat.le_refl _)] at hqe
              have HMC := Lib.hid (HM5.out.below HBJ.out)
              rw [← hqe] at HMC
              clear hqe HQE
              go_wp2_with (fail)
              refine (mpairs_any b3 _ Q _ HMC.out (by have := HQL.out; omega)).mono ?_
              rintro e y1 ⟨a7, c7, rfl, hR7, hb7⟩
              have HR7 := Lib.hid hR7
              have HY1 := Lib.hid hb7
              clear hR7 hb7
              go_wp2_with (fail)
              refine (samep_any a7 ao c7 cp Q Q _ (HR7.out.prs rfl) (HPW.out.below HY1.out) true (decide_eq_true rfl)).mono ?_
              rintro e y2 ⟨rfl, hb8⟩
              have HY2 := Lib.hid (bel2 HY1.out hb8)
              clear hb8
              go_wp2_with (go_at_call 9; ((with_reducible refine (ca _).mono ?_); rintro e y3 ⟨rfl, hb9⟩))
              go_ret
              exact ⟨rfl, bel2 (bel2 (bel2 HB5.out HBJ.out) HY2.out) hb9⟩

set_option maxRecDepth 100000 in
theorem lifted (os : Os) (started : os.Started) (H : Type) (enc : TypeId × Value → H) :
    ReturnsInHanded {} Try.checked os 3 .any (Rows.modelRunsSpec.pre6 enc Try.prog Try.f3 Rows.modelRunsRow.domain false) (Rows.modelRunsSpec.post enc Try.prog Try.f3 false true false false) := by
  refine returnsInHanded_of_change_sized (C := Try.checked) own started (by kernel_rfl) Try.func3
    (ChangeSpec.witness6 (enc := enc) (C := Try.checked) false ⟨#[], #[.slice none 0 0, .slice none 0 0, .slice none 0 0], []⟩ 8 (by kernel_rfl) (by kernel_rfl) (by kernel_rfl) (by kernel_rfl)) ?_
  intro W base args ds gs before hval0 hW hcnd hsz _
  have hval : ∀ (j : Nat) t v, Try.f3.params[j]? = some t → args[j]? = some v → Value.okWide Try.prog W .any base t v := hval0
  have hW' := hW
  obtain ⟨p, q, hA0, hV, rfl, hfz, hnd⟩ := hW
  have hA : DataW.TrodAll enc Try.prog W 0 (fun _ => true) true Try.f3.params.toList args.toList ds p := hA0
  rw [Try.params3] at hA hval
  obtain ⟨v0, vs0, d0, ds0, p0, q0, hargs, rfl, rfl, h0, r0⟩ := trodAll_cons hA
  obtain ⟨v1, vs1, d1, ds1, p1, q1, rfl, rfl, rfl, h1, r1⟩ := trodAll_cons r0
  obtain ⟨v2, vs2, d2, ds2, p2, q2, rfl, rfl, rfl, h2, r2⟩ := trodAll_cons r1
  obtain ⟨rfl, rfl, rfl⟩ := trodAll_nil r2
  obtain rfl : args = #[v0, v1, v2] := by cases args; simp_all
  obtain ⟨rfl, rfl⟩ := trodVars_none hV
  have k0 := h0
  have lt0 : ∀ x ∈ p0, x.block < W.heap.size := by obtain ⟨m, hm⟩ := k0; exact DataW.trod_lt m _ _ _ hm
  obtain ⟨b0, l0, c0, rfl⟩ := okWide_slice Try.underlying22 (hval 0 22 v0 rfl rfl)
  obtain ⟨a0, cap0, z0, e0, w0⟩ := open_pairs (enc := enc) (w := W) (v := .slice b0 l0 c0) (fuel := h0.choose) (by simpa [Value.cells] using h0.choose_spec)
  rw [e0] at hval k0 h0 hW' hval0 hA0
  have k1 := h1
  have lt1 : ∀ x ∈ p1, x.block < W.heap.size := by obtain ⟨m, hm⟩ := k1; exact DataW.trod_lt m _ _ _ hm
  obtain ⟨b1, l1, c1, rfl⟩ := okWide_slice Try.underlying23 (hval 1 23 v1 rfl rfl)
  obtain ⟨a1, cap1, z1, e1, w1⟩ := open_ops (enc := enc) (w := W) (v := .slice b1 l1 c1) (fuel := h1.choose) (by simpa [Value.cells] using h1.choose_spec)
  rw [e1] at hval k1 h1 hW' hval0 hA0
  have s1 := wt_ops (enc := enc) (w := W) (fuel := h1.choose) (a := a1) (len := z1.length) (cap := cap1) (by simpa [Value.cells] using h1.choose_spec) (fun n hn => by simpa using List.all_eq_true.1 hsz n (DataW.weights_mem_each (j := 1) rfl rfl n hn))
  have k2 := h2
  have lt2 : ∀ x ∈ p2, x.block < W.heap.size := by obtain ⟨m, hm⟩ := k2; exact DataW.trod_lt m _ _ _ hm
  obtain ⟨b2, l2, c2, rfl⟩ := okWide_slice Try.underlying23 (hval 2 23 v2 rfl rfl)
  obtain ⟨a2, cap2, z2, e2, w2⟩ := open_ops (enc := enc) (w := W) (v := .slice b2 l2 c2) (fuel := h2.choose) (by simpa [Value.cells] using h2.choose_spec)
  rw [e2] at hval k2 h2 hW' hval0 hA0
  have s2 := wt_ops (enc := enc) (w := W) (fuel := h2.choose) (a := a2) (len := z2.length) (cap := cap2) (by simpa [Value.cells] using h2.choose_spec) (fun n hn => by simpa using List.all_eq_true.1 hsz n (DataW.weights_mem_each (j := 2) rfl rfl n hn))
  clear hA0 hval0
  rw [e0]; rw [e1]; rw [e2]; refine (walk a0 cap0 z0 a1 cap1 z1 a2 cap2 z2 W w0 w1 s1 w2 s2).mono fun e W' ⟨he, bel⟩ => ?_
  subst he
  exact ⟨_, rfl, _, _, _, [], _, [], hW', trodAll_mk1 (shut_bool Try.underlying4 _), (trodAll_cons_mk (Below.trod laidOut (by kernel_rfl) (of_decide_eq_true (by kernel_rfl)) k0 bel lt0) (trodAll_cons_mk (Below.trod laidOut (by kernel_rfl) (of_decide_eq_true (by kernel_rfl)) k1 bel lt1) (trodAll_cons_mk (Below.trod laidOut (by kernel_rfl) (of_decide_eq_true (by kernel_rfl)) k2 bel lt2) trodAll_mk0))), rfl, bel.frame _, fun h => by cases h⟩

theorem over : Rows.modelRunsRow.holds Try.pinned (OpenSpec.ofChange Rows.modelRunsSpec) :=
  OpenClaim.holds_of_wide 3 Try.f3 rfl rfl rfl rfl rfl rfl rfl ⟨rfl, rfl, rfl, rfl, rfl⟩ rfl rfl rfl rfl rfl (by kernel_rfl) Try.func3 (by kernel_rfl)
    (of_decide_eq_true (by kernel_rfl)) (by unfold Func.isWrapper; first | (rw [if_pos (by decide +kernel)]; kernel_rfl) | (rw [if_neg (by decide +kernel)]; exact ⟨rfl, rfl⟩))
    (fun os started H enc _ => lifted os started H enc)

theorem modelRunsHolds : Rows.ModelRunsSaid := over
#print axioms modelRunsHolds
end Go.Proofs.Ytooengicfjcchaa.modelRuns
