/- PastCounts (P18.1, P18.2): of a history that can be gone through: if it may not be, it has no calls, is not over and not solo; if it may be, there are as many calls as beginnings, it is over just if there are as many returns as beginnings, and solo just if each two calls in a row are one before the other. No condition. -/
import Derived.Test.YtdhonompnbphlaaRows
import Derived.Test.YtdhonompnbphlaaPaE
import Derived.LoopTactic
import Derived.WalkKit
import Derived.ProofKit
import Derived.OpenShut
import Derived.ChangeOld
import Derived.Below
namespace Go.Proofs.Ytdhonompnbphlaa.pastCounts
open Go.ChangeShapes Go.WideShapes Go.ChangeAt Go.RowKit
set_option linter.all false

theorem own : ownKnob Try.prog.godebug = none := by kernel_rfl
theorem laidOut : laidOutB Try.prog = true := by kernel_rfl

theorem count_both (h : List EvD) : ∀ n, cntB h n + cntR h n = n := by
  intro n
  induction n with
  | zero => rfl
  | succ n ih => simp only [cntB, cntR]; split <;> omega

set_option maxRecDepth 100000 in
set_option maxHeartbeats 12800000 in
theorem walk (a0 : Option Addr) (cap0 : Nat) (z0 : List EvD) (w : World) (w0 : Es w a0 cap0 z0) (s0 : MidE z0) :
    Calls Try.prog 7 #[.slice a0 z0.length cap0] w fun e w' => e = .returned (.bool true) ∧ Below w.heap.size w w' := by
  have hlg := light_anyE a0 cap0 z0 w w0 s0
  have ca := fun W (hb : Below w.heap.size w W) => pawake_any W
  by_cases hL : LgtE z0
  rotate_left
  · have cl := hlg 1 (fun h => absurd h hL) (fun _ => rfl)
    clear hlg hL
    go_enter Try.func7, Try.ntmps7
    go_wp2_with (first
      | (go_at_call 18; ((with_reducible refine cl.mono ?_); clear cl; rintro e w1 ⟨rfl, hb1⟩; have HB1 := Lib.hid hb1; clear hb1))
      | (go_at_call 21; ((with_reducible refine (ca _ HB1.out).mono ?_); clear ca; rintro e wa ⟨rfl, hba⟩; have HBa := Lib.hid (pb2 HB1.out hba); clear hba))
      | fail)
    go_ret
    exact ⟨by simp, HBa.out⟩
  have cl := hlg 0 (fun _ => rfl) (fun h => absurd hL h)
  have hN3 : z0.length ≤ 300 := Nat.le_trans hL.1 (by decide)
  have hps : ∀ e ∈ z0, e.a.ps.length ≤ 1100000 := fun e he => Nat.le_trans (hL.ps e he) (by decide)
  have cm0 := fun W (hb : Below w.heap.size w W) => may_anyP a0 cap0 z0 W (w0.keep hb) hN3
  have cc0 := fun W (hb : Below w.heap.size w W) => calls_any a0 cap0 z0 W (w0.keep hb) hN3 hps
  have co0 := fun W (hb : Below w.heap.size w W) => over_any a0 cap0 z0 W (w0.keep hb) hN3
  have cs0 := fun W (hb : Below w.heap.size w W) => solo_any a0 cap0 z0 W (w0.keep hb) hN3
  have HW := Lib.hid w0
  have hz1 := w0.1
  have hz2 := w0.2.1
  unfold maxLen at hz2
  have hN2 := hL.1
  clear hlg hL w0 s0 hps
  cases hm : mtch z0 with
  | none =>
    have cm := fun W hb => cm0 W hb false (by rw [hm]; rfl)
    have cc := fun W hb => cc0 W hb [] (by unfold callsL; rw [hm])
    have co := fun W hb => co0 W hb false (by unfold overB; rw [hm])
    have cs := fun W hb => cs0 W hb false (by unfold soloB; rw [hm])
    clear cm0 cc0 co0 cs0 hm
    go_enter Try.func7, Try.ntmps7
    go_wp2_with (first
      | (go_at_call 18; ((with_reducible refine cl.mono ?_); clear cl; rintro e w1 ⟨rfl, hb1⟩; have HB1 := Lib.hid hb1; clear hb1))
      | (go_at_call 19; ((with_reducible refine (cm _ HB1.out).mono ?_); clear cm; rintro e w2 ⟨rfl, hb2⟩; have HB2 := Lib.hid (pb2 HB1.out hb2); clear hb2))
      | (go_at_call 22; ((with_reducible refine (cc _ HB2.out).mono ?_); clear cc; rintro e w3 ⟨ao, lc, rfl, -, hb3⟩; have HB3 := Lib.hid (pb2 HB2.out hb3); clear hb3))
      | (go_at_call 25; ((with_reducible refine (co _ HB3.out).mono ?_); clear co; rintro e w4 ⟨rfl, hb4⟩; have HB4 := Lib.hid (pb2 HB3.out hb4); clear hb4))
      | (go_at_call 24; ((with_reducible refine (cs _ HB4.out).mono ?_); clear cs; rintro e w5 ⟨rfl, hb5⟩; have HB5 := Lib.hid (pb2 HB4.out hb5); clear hb5))
      | (go_at_call 21; ((with_reducible refine (ca _ HB5.out).mono ?_); clear ca; rintro e wa ⟨rfl, hba⟩; have HBa := Lib.hid (pb2 HB5.out hba); clear hba))
      | fail)
    go_ret
    exact ⟨by simp, HBa.out⟩
  | some s1 =>
    have cm := fun W hb => cm0 W hb true (by rw [hm]; rfl)
    have cc := fun W hb => cc0 W hb s1.l (by unfold callsL; rw [hm])
    have I := minv z0 _ s1 hm
    have hnb := I.nb
    have hov := I.ovr
    obtain ⟨l, hl⟩ : ∃ l, s1.l = l := ⟨_, rfl⟩
    rw [hl] at cc hnb hov
    have hlen : l.length ≤ 200 := by rw [hnb]; exact Nat.le_trans (cnt_le z0 _).1 hN2
    obtain ⟨Bs, hBs⟩ : ∃ B, decide (slo l) = B := ⟨_, rfl⟩
    obtain ⟨Bo, hBo⟩ : ∃ B, decide (ovr l) = B := ⟨_, rfl⟩
    have co := fun W hb => co0 W hb Bo (by unfold overB; rw [hm]; dsimp only; rw [hl]; exact hBo)
    have cs := fun W hb => cs0 W hb Bs (by unfold soloB; rw [hm]; dsimp only; rw [hl]; exact hBs)
    have HBS := Lib.hid hBs
    have HBO := Lib.hid hBo
    have HNB := Lib.hid hnb
    have HOV := Lib.hid hov
    clear cm0 cc0 co0 cs0 hm I hnb hov hl hBs hBo
    go_enter Try.func7, Try.ntmps7
    go_wp2_with (first
      | (go_at_call 18; ((with_reducible refine cl.mono ?_); clear cl; rintro e w1 ⟨rfl, hb1⟩; have HB1 := Lib.hid hb1; clear hb1))
      | (go_at_call 19; ((with_reducible refine (cm _ HB1.out).mono ?_); clear cm; rintro e w2 ⟨rfl, hb2⟩; have HB2 := Lib.hid (pb2 HB1.out hb2); clear hb2))
      | fail)
    go_loopw [36, 3, 4] (fun i x y wr => ∃ n : Nat, n ≤ z0.length ∧ i = .int .i64 n ∧ x = .int .i64 (cntB z0 n : Nat) ∧ y = .int .i64 (cntR z0 n : Nat) ∧ Below w.heap.size w wr) (fun i _ _ _ => z0.length - (intOf i).toNat)
    case atStart => exact ⟨0, Nat.zero_le _, rfl, rfl, rfl, HB2.out⟩
    case round =>
      obtain ⟨n, hn, rfl, rfl, rfl, hb⟩ := hrel
      have HBR := Lib.hid hb
      by_cases hlt : n < z0.length
      · obtain ⟨x, hx⟩ : ∃ x, z0[n]? = some x := ⟨_, List.getElem?_eq_getElem hlt⟩
        obtain ⟨b, o, pa, pc, rfl, hx1⟩ := (HW.out.keep hb).2.2 n x hx
        have hn0 : (0 : Int) ≤ (n : Int) := Int.natCast_nonneg n
        have hnl : (n : Int) < (z0.length : Int) := Int.ofNat_lt.2 hlt
        obtain ⟨e0, e1, e2, e3, e4, e5, e6, e7, e8, e9, e10, e11⟩ := hx1.ex
        have hgx : z0.getD n zEv = x := by rw [List.getD_eq_getElem?_getD, hx]; rfl
        have hcl := cnt_le z0 n
        have hwB : wrap64 ((cntB z0 n : Int) + 1) = (cntB z0 n : Int) + 1 := by unfold wrap64; omega
        have hwR : wrap64 ((cntR z0 n : Int) + 1) = (cntR z0 n : Int) + 1 := by unfold wrap64; omega
        obtain ⟨t, r, ⟨oc, ok, oh, ov⟩, ⟨ae, ao, ak, av, an, ap⟩⟩ := x
        dsimp only at e0 e1 e2 e3 e4 e5 e6 e7 e8 e9 e10 e11
        clear hx hb hx1
        cases r
        · have hB1 : cntB z0 (n + 1) = cntB z0 n + 1 := by simp only [cntB, hgx]; rfl
          have hR1 : cntR z0 (n + 1) = cntR z0 n := by simp only [cntR, hgx]; rfl
          clear hgx hcl
          generalize cntB z0 n = cb at hB1 hwB ⊢
          generalize cntR z0 n = cr at hR1 hwR ⊢
          go_wp2_with (fail)
          go_roundw
          case rel => exact ⟨n + 1, by omega, by go_num, by rw [hB1]; go_num, by rw [hR1], pb2 HBR.out (pal _)⟩
          case measure => simp [intOf]; omega
        · have hB1 : cntB z0 (n + 1) = cntB z0 n := by simp only [cntB, hgx]; rfl
          have hR1 : cntR z0 (n + 1) = cntR z0 n + 1 := by simp only [cntR, hgx]; rfl
          clear hgx hcl
          generalize cntB z0 n = cb at hB1 hwB ⊢
          generalize cntR z0 n = cr at hR1 hwR ⊢
          go_wp2_with (fail)
          go_roundw
          case rel => exact ⟨n + 1, by omega, by go_num, by rw [hB1], by rw [hR1]; go_num, pb2 HBR.out (pal _)⟩
          case measure => simp [intOf]; omega
      · obtain rfl : n = z0.length := by omega
        rw [← HNB.out]
        have hrl : cntR z0 z0.length ≤ 200 := Nat.le_trans (cnt_le z0 _).2 hN2
        have HBO2 := Lib.hid (show Bo = decide (l.length = cntR z0 z0.length) by rw [← HBO.out, HNB.out, decide_eq_decide]; exact HOV.out)
        clear hb hn
        generalize cntR z0 z0.length = cr at hrl HBO2 ⊢
        go_wp2_with (first
          | (go_at_call 22; ((with_reducible refine (cc _ HBR.out).mono ?_); clear cc; rintro e w3 ⟨ao, lc, rfl, hcs, hb3⟩; have HC := Lib.hid hcs; have HB3 := Lib.hid (pb2 HBR.out hb3); clear hb3 hcs))
          | fail)
        have hc1 := HC.out.1
        have hc2 := HC.out.2.1
        unfold maxLen at hc2
        go_loopw [9, 8] (fun i x wr => ∃ (n : Nat) (sb : Bool), (n + 1 ≤ l.length ∨ n = 0) ∧ i = .int .i64 ((n : Int) + 1) ∧ x = .bool sb ∧ (sb = true ↔ ∀ i, 0 < i → i < n + 1 → bef (l.getD (i - 1) zCl) (l.getD i zCl)) ∧ Below w3.heap.size w3 wr) (fun i _ _ => l.length - (intOf i).toNat)
        case atStart => exact ⟨0, true, .inr rfl, rfl, rfl, ⟨fun _ i h1 h2 => by omega, fun _ => rfl⟩, Below.refl _ _⟩
        case round =>
          obtain ⟨n, sb, hn, rfl, rfl, hno, hb⟩ := hrel
          have HNO := Lib.hid hno
          have HBX := Lib.hid hb
          by_cases hlt : n + 1 < l.length
          · obtain ⟨p, hp⟩ : ∃ q, l[n]? = some q := ⟨_, List.getElem?_eq_getElem (by omega)⟩
            obtain ⟨q, hq⟩ : ∃ q, l[n + 1]? = some q := ⟨_, List.getElem?_eq_getElem hlt⟩
            obtain ⟨b, o, pa1, pc1, hao, hca⟩ := (HC.out.keep hb).2.2 n p hp
            obtain ⟨b', o', pa2, pc2, hao', hcb⟩ := (HC.out.keep hb).2.2 (n + 1) q hq
            subst hao
            cases hao'
            obtain ⟨c0, c1, c2, c3, c4, c5, c6, c7, c8, c9, c10, c11, c12⟩ := hca.ex
            obtain ⟨d0, d1, d2, d3, d4, d5, d6, d7, d8, d9, d10, d11, d12⟩ := hcb.ex
            have hn0 : (0 : Int) ≤ (n : Int) := Int.natCast_nonneg n
            have hnl : (n : Int) + 1 < (l.length : Int) := by omega
            have hnl2 : (n : Int) < (l.length : Int) := by omega
            have hn1 : (0 : Int) ≤ (n : Int) + 1 := by omega
            have hw1 : wrap64 ((n : Int) + 1 - 1) = (n : Int) := by unfold wrap64; omega
            have hw3 : wrap64 ((n : Int) + 1 + 1) = (n : Int) + 1 + 1 := by unfold wrap64; omega
            have htn : ((n : Int) + 1).toNat = n + 1 := by omega
            have hw2 : IntKind.i64.wrap ((n : Int) + 1 - 1) = (n : Int) := (wrapEqP _).trans hw1
            have hw4 : IntKind.i64.wrap (n : Int) = (n : Int) := (wrapEqP _).trans (by unfold wrap64; omega)
            have HSB := Lib.hid (slo_step hp hq)
            obtain ⟨B2, hB2⟩ : ∃ B2 : Bool, decide (bef p q) = B2 := ⟨_, rfl⟩
            have c := fun W => bef_any p q pa1 pa2 pc1 pc2 W B2 hB2
            have HB9 := Lib.hid hB2
            clear hp hq hca hcb hno hb hB2 hn
            obtain ⟨t1, f1, g1, ⟨oc1, ok1, oh1, ov1⟩, ⟨ae1, ao1, ak1, av1, an1, ap1⟩⟩ := p
            obtain ⟨t2, f2, g2, ⟨oc2, ok2, oh2, ov2⟩, ⟨ae2, ao2, ak2, av2, an2, ap2⟩⟩ := q
            unfold clV at c
            dsimp only at c c0 c1 c2 c3 c4 c5 c6 c7 c8 c9 c10 c11 c12 d0 d1 d2 d3 d4 d5 d6 d7 d8 d9 d10 d11 d12
            cases sb
            · go_wp2_with (fail)
              refine wp_region_held_drew (S := fun W => W.cell? ⟨b, o + n * 13, none⟩ = some (.int .i64 t1) ∧ W.cell? ⟨b, o + n * 13 + 1, none⟩ = some (.int .i64 f1) ∧ W.cell? ⟨b, o + n * 13 + 2, none⟩ = some (.int .i64 g1) ∧ W.cell? ⟨b, o + n * 13 + 3, none⟩ = some (.int .i64 oc1) ∧ W.cell? ⟨b, o + n * 13 + 4, none⟩ = some (.int .i64 ok1) ∧ W.cell? ⟨b, o + n * 13 + 5, none⟩ = some (.int .i64 oh1) ∧ W.cell? ⟨b, o + n * 13 + 6, none⟩ = some (.int .i64 ov1) ∧ W.cell? ⟨b, o + n * 13 + 7, none⟩ = some (.int .i64 ae1) ∧ W.cell? ⟨b, o + n * 13 + 8, none⟩ = some (.bool ao1) ∧ W.cell? ⟨b, o + n * 13 + 9, none⟩ = some (.int .i64 ak1) ∧ W.cell? ⟨b, o + n * 13 + 10, none⟩ = some (.int .i64 av1) ∧ W.cell? ⟨b, o + n * 13 + 11, none⟩ = some (.int .i64 an1) ∧ W.cell? ⟨b, o + n * 13 + 12, none⟩ = some (.slice pa1 ap1.length pc1) ∧ W.cell? ⟨b, o + (n + 1) * 13, none⟩ = some (.int .i64 t2) ∧ W.cell? ⟨b, o + (n + 1) * 13 + 1, none⟩ = some (.int .i64 f2) ∧ W.cell? ⟨b, o + (n + 1) * 13 + 2, none⟩ = some (.int .i64 g2) ∧ W.cell? ⟨b, o + (n + 1) * 13 + 3, none⟩ = some (.int .i64 oc2) ∧ W.cell? ⟨b, o + (n + 1) * 13 + 4, none⟩ = some (.int .i64 ok2) ∧ W.cell? ⟨b, o + (n + 1) * 13 + 5, none⟩ = some (.int .i64 oh2) ∧ W.cell? ⟨b, o + (n + 1) * 13 + 6, none⟩ = some (.int .i64 ov2) ∧ W.cell? ⟨b, o + (n + 1) * 13 + 7, none⟩ = some (.int .i64 ae2) ∧ W.cell? ⟨b, o + (n + 1) * 13 + 8, none⟩ = some (.bool ao2) ∧ W.cell? ⟨b, o + (n + 1) * 13 + 9, none⟩ = some (.int .i64 ak2) ∧ W.cell? ⟨b, o + (n + 1) * 13 + 10, none⟩ = some (.int .i64 av2) ∧ W.cell? ⟨b, o + (n + 1) * 13 + 11, none⟩ = some (.int .i64 an2) ∧ W.cell? ⟨b, o + (n + 1) * 13 + 12, none⟩ = some (.slice pa2 ap2.length pc2) ∧ Below wr.heap.size wr W) (by kernel_rfl) (by first | exact ⟨c0, c1, c2, c3, c4, c5, c6, c7, c8, c9, c10, c11, c12, d0, d1, d2, d3, d4, d5, d6, d7, d8, d9, d10, d11, d12, Below.refl _ _⟩ | exact ⟨c0, c1, c2, c3, c4, c5, c6, c7, c8, c9, c10, c11, c12, d0, d1, d2, d3, d4, d5, d6, d7, d8, d9, d10, d11, d12, (Below.refl _ _).drew⟩) (fun hHeld => ?_)
              refine wpAnyH_take (i := 0) (v := ?_) rfl (by kernel_rfl) (by kernel_rfl) (by kernel_rfl) (fun _ _ _ h => h) (Or.inl ⟨by rfl, ?_⟩) hHeld ?_
              rotate_left
              · (intro wS hSw; (try dsimp only at hSw); (try go_split_ands); go_simp; try with_reducible rfl)
              try simp only [List.getElem_toArray, List.getElem_cons_succ, List.getElem_cons_zero, Act.put, List.setIfInBounds_toArray, List.set_cons_zero, List.set_cons_succ]
              refine wpAnyH_take (i := 1) (v := ?_) rfl (by kernel_rfl) (by kernel_rfl) (by kernel_rfl) (fun _ _ _ h => h) (Or.inl ⟨by rfl, ?_⟩) hHeld ?_
              rotate_left
              · (intro wS hSw; (try dsimp only at hSw); (try go_split_ands); go_simp; try with_reducible rfl)
              try simp only [List.getElem_toArray, List.getElem_cons_succ, List.getElem_cons_zero, Act.put, List.setIfInBounds_toArray, List.set_cons_zero, List.set_cons_succ]
              refine wpAnyH_take (i := 2) (v := undef) rfl (by kernel_rfl) (by kernel_rfl) (by kernel_rfl) (fun _ _ _ h => h) (Or.inr ⟨by rfl, rfl⟩) hHeld ?_
              try simp only [List.getElem_toArray, List.getElem_cons_succ, List.getElem_cons_zero, Act.put, List.setIfInBounds_toArray, List.set_cons_zero, List.set_cons_succ]
              refine wpAnyH_take (i := 3) (v := undef) rfl (by kernel_rfl) (by kernel_rfl) (by kernel_rfl) (fun _ _ _ h => h) (Or.inr ⟨by rfl, rfl⟩) hHeld ?_
              try simp only [List.getElem_toArray, List.getElem_cons_succ, List.getElem_cons_zero, Act.put, List.setIfInBounds_toArray, List.set_cons_zero, List.set_cons_succ]
              refine wpAnyH_take (i := 4) (v := undef) rfl (by kernel_rfl) (by kernel_rfl) (by kernel_rfl) (fun _ _ _ h => h) (Or.inr ⟨by rfl, rfl⟩) hHeld ?_
              try simp only [List.getElem_toArray, List.getElem_cons_succ, List.getElem_cons_zero, Act.put, List.setIfInBounds_toArray, List.set_cons_zero, List.set_cons_succ]
              refine wpAnyH_take (i := 5) (v := undef) rfl (by kernel_rfl) (by kernel_rfl) (by kernel_rfl) (fun _ _ _ h => h) (Or.inr ⟨by rfl, rfl⟩) hHeld ?_
              try simp only [List.getElem_toArray, List.getElem_cons_succ, List.getElem_cons_zero, Act.put, List.setIfInBounds_toArray, List.set_cons_zero, List.set_cons_succ]
              refine wpAnyH_take (i := 6) (v := undef) rfl (by kernel_rfl) (by kernel_rfl) (by kernel_rfl) (fun _ _ _ h => h) (Or.inr ⟨by rfl, rfl⟩) hHeld ?_
              try simp only [List.getElem_toArray, List.getElem_cons_succ, List.getElem_cons_zero, Act.put, List.setIfInBounds_toArray, List.set_cons_zero, List.set_cons_succ]
              refine wpAnyH_take (i := 7) (v := undef) rfl (by kernel_rfl) (by kernel_rfl) (by kernel_rfl) (fun _ _ _ h => h) (Or.inr ⟨by rfl, rfl⟩) hHeld ?_
              try simp only [List.getElem_toArray, List.getElem_cons_succ, List.getElem_cons_zero, Act.put, List.setIfInBounds_toArray, List.set_cons_zero, List.set_cons_succ]
              refine wpAnyH_take (i := 8) (v := undef) rfl (by kernel_rfl) (by kernel_rfl) (by kernel_rfl) (fun _ _ _ h => h) (Or.inr ⟨by rfl, rfl⟩) hHeld ?_
              try simp only [List.getElem_toArray, List.getElem_cons_succ, List.getElem_cons_zero, Act.put, List.setIfInBounds_toArray, List.set_cons_zero, List.set_cons_succ]
              refine wpAnyH_take (i := 9) (v := undef) rfl (by kernel_rfl) (by kernel_rfl) (by kernel_rfl) (fun _ _ _ h => h) (Or.inr ⟨by rfl, rfl⟩) hHeld ?_
              try simp only [List.getElem_toArray, List.getElem_cons_succ, List.getElem_cons_zero, Act.put, List.setIfInBounds_toArray, List.set_cons_zero, List.set_cons_succ]
              refine wpAnyH_take (i := 10) (v := undef) rfl (by kernel_rfl) (by kernel_rfl) (by kernel_rfl) (fun _ _ _ h => h) (Or.inr ⟨by rfl, rfl⟩) hHeld ?_
              try simp only [List.getElem_toArray, List.getElem_cons_succ, List.getElem_cons_zero, Act.put, List.setIfInBounds_toArray, List.set_cons_zero, List.set_cons_succ]
              refine wpAnyH_take (i := 11) (v := undef) rfl (by kernel_rfl) (by kernel_rfl) (by kernel_rfl) (fun _ _ _ h => h) (Or.inr ⟨by rfl, rfl⟩) hHeld ?_
              try simp only [List.getElem_toArray, List.getElem_cons_succ, List.getElem_cons_zero, Act.put, List.setIfInBounds_toArray, List.set_cons_zero, List.set_cons_succ]
              refine wpAnyH_take (i := 12) (v := ?_) rfl (by kernel_rfl) (by kernel_rfl) (by kernel_rfl) (fun _ _ _ h => h) (Or.inl ⟨by rfl, ?_⟩) hHeld ?_
              rotate_left
              · (intro wS hSw; (try dsimp only at hSw); (try go_split_ands); go_simp; try with_reducible rfl)
              try simp only [List.getElem_toArray, List.getElem_cons_succ, List.getElem_cons_zero, Act.put, List.setIfInBounds_toArray, List.set_cons_zero, List.set_cons_succ]
              refine wpAnyH_take (i := 13) (v := ?_) rfl (by kernel_rfl) (by kernel_rfl) (by kernel_rfl) (fun _ _ _ h => h) (Or.inl ⟨by rfl, ?_⟩) hHeld ?_
              rotate_left
              · (intro wS hSw; (try dsimp only at hSw); (try go_split_ands); go_simp; try with_reducible rfl)
              try simp only [List.getElem_toArray, List.getElem_cons_succ, List.getElem_cons_zero, Act.put, List.setIfInBounds_toArray, List.set_cons_zero, List.set_cons_succ]
              refine wpAnyH_done (by kernel_rfl) ?_ _
              clear c0 c1 c2 c3 c4 c5 c6 c7 c8 c9 c10 c11 c12 d0 d1 d2 d3 d4 d5 d6 d7 d8 d9 d10 d11 d12 c hw1 hw2 hw4 htn
              have HE := Lib.hid hHeld.2.2.2.2.2.2.2.2.2.2.2.2.2.2.2.2.2.2.2.2.2.2.2.2.2.2
              clear hHeld
              go_wp2_with (fail)
              go_roundw
              case rel =>
                refine ⟨n + 1, false, .inl (by omega), by go_num, rfl, ⟨fun h => (by cases h), fun h => ?_⟩, pb2 HBX.out HE.out⟩
                exact HNO.out.2 (fun i h1 h2 => h i h1 (by omega))
              case measure => simp [intOf]; omega
            · go_wp2_with (fail)
              refine wp_region_held_drew (S := fun W => W.cell? ⟨b, o + n * 13, none⟩ = some (.int .i64 t1) ∧ W.cell? ⟨b, o + n * 13 + 1, none⟩ = some (.int .i64 f1) ∧ W.cell? ⟨b, o + n * 13 + 2, none⟩ = some (.int .i64 g1) ∧ W.cell? ⟨b, o + n * 13 + 3, none⟩ = some (.int .i64 oc1) ∧ W.cell? ⟨b, o + n * 13 + 4, none⟩ = some (.int .i64 ok1) ∧ W.cell? ⟨b, o + n * 13 + 5, none⟩ = some (.int .i64 oh1) ∧ W.cell? ⟨b, o + n * 13 + 6, none⟩ = some (.int .i64 ov1) ∧ W.cell? ⟨b, o + n * 13 + 7, none⟩ = some (.int .i64 ae1) ∧ W.cell? ⟨b, o + n * 13 + 8, none⟩ = some (.bool ao1) ∧ W.cell? ⟨b, o + n * 13 + 9, none⟩ = some (.int .i64 ak1) ∧ W.cell? ⟨b, o + n * 13 + 10, none⟩ = some (.int .i64 av1) ∧ W.cell? ⟨b, o + n * 13 + 11, none⟩ = some (.int .i64 an1) ∧ W.cell? ⟨b, o + n * 13 + 12, none⟩ = some (.slice pa1 ap1.length pc1) ∧ W.cell? ⟨b, o + (n + 1) * 13, none⟩ = some (.int .i64 t2) ∧ W.cell? ⟨b, o + (n + 1) * 13 + 1, none⟩ = some (.int .i64 f2) ∧ W.cell? ⟨b, o + (n + 1) * 13 + 2, none⟩ = some (.int .i64 g2) ∧ W.cell? ⟨b, o + (n + 1) * 13 + 3, none⟩ = some (.int .i64 oc2) ∧ W.cell? ⟨b, o + (n + 1) * 13 + 4, none⟩ = some (.int .i64 ok2) ∧ W.cell? ⟨b, o + (n + 1) * 13 + 5, none⟩ = some (.int .i64 oh2) ∧ W.cell? ⟨b, o + (n + 1) * 13 + 6, none⟩ = some (.int .i64 ov2) ∧ W.cell? ⟨b, o + (n + 1) * 13 + 7, none⟩ = some (.int .i64 ae2) ∧ W.cell? ⟨b, o + (n + 1) * 13 + 8, none⟩ = some (.bool ao2) ∧ W.cell? ⟨b, o + (n + 1) * 13 + 9, none⟩ = some (.int .i64 ak2) ∧ W.cell? ⟨b, o + (n + 1) * 13 + 10, none⟩ = some (.int .i64 av2) ∧ W.cell? ⟨b, o + (n + 1) * 13 + 11, none⟩ = some (.int .i64 an2) ∧ W.cell? ⟨b, o + (n + 1) * 13 + 12, none⟩ = some (.slice pa2 ap2.length pc2) ∧ Below wr.heap.size wr W) (by kernel_rfl) (by first | exact ⟨c0, c1, c2, c3, c4, c5, c6, c7, c8, c9, c10, c11, c12, d0, d1, d2, d3, d4, d5, d6, d7, d8, d9, d10, d11, d12, Below.refl _ _⟩ | exact ⟨c0, c1, c2, c3, c4, c5, c6, c7, c8, c9, c10, c11, c12, d0, d1, d2, d3, d4, d5, d6, d7, d8, d9, d10, d11, d12, (Below.refl _ _).drew⟩) (fun hHeld => ?_)
              refine wpAnyH_take (i := 0) (v := ?_) rfl (by kernel_rfl) (by kernel_rfl) (by kernel_rfl) (fun _ _ _ h => h) (Or.inl ⟨by rfl, ?_⟩) hHeld ?_
              rotate_left
              · (intro wS hSw; (try dsimp only at hSw); (try go_split_ands); go_simp; try with_reducible rfl)
              try simp only [List.getElem_toArray, List.getElem_cons_succ, List.getElem_cons_zero, Act.put, List.setIfInBounds_toArray, List.set_cons_zero, List.set_cons_succ]
              refine wpAnyH_take (i := 1) (v := ?_) rfl (by kernel_rfl) (by kernel_rfl) (by kernel_rfl) (fun _ _ _ h => h) (Or.inl ⟨by rfl, ?_⟩) hHeld ?_
              rotate_left
              · (intro wS hSw; (try dsimp only at hSw); (try go_split_ands); go_simp; try with_reducible rfl)
              try simp only [List.getElem_toArray, List.getElem_cons_succ, List.getElem_cons_zero, Act.put, List.setIfInBounds_toArray, List.set_cons_zero, List.set_cons_succ]
              refine wpAnyH_take (i := 2) (v := ?_) rfl (by kernel_rfl) (by kernel_rfl) (by kernel_rfl) (fun _ _ _ h => h) (Or.inl ⟨by rfl, ?_⟩) hHeld ?_
              rotate_left
              · (intro wS hSw; (try dsimp only at hSw); (try go_split_ands); go_simp; try with_reducible rfl)
              try simp only [List.getElem_toArray, List.getElem_cons_succ, List.getElem_cons_zero, Act.put, List.setIfInBounds_toArray, List.set_cons_zero, List.set_cons_succ]
              refine wpAnyH_take (i := 3) (v := ?_) rfl (by kernel_rfl) (by kernel_rfl) (by kernel_rfl) (fun _ _ _ h => h) (Or.inl ⟨by rfl, ?_⟩) hHeld ?_
              rotate_left
              · (intro wS hSw; (try dsimp only at hSw); (try go_split_ands); go_simp; try with_reducible rfl)
              try simp only [List.getElem_toArray, List.getElem_cons_succ, List.getElem_cons_zero, Act.put, List.setIfInBounds_toArray, List.set_cons_zero, List.set_cons_succ]
              refine wpAnyH_take (i := 4) (v := ?_) rfl (by kernel_rfl) (by kernel_rfl) (by kernel_rfl) (fun _ _ _ h => h) (Or.inl ⟨by rfl, ?_⟩) hHeld ?_
              rotate_left
              · (intro wS hSw; (try dsimp only at hSw); (try go_split_ands); go_simp; try with_reducible rfl)
              try simp only [List.getElem_toArray, List.getElem_cons_succ, List.getElem_cons_zero, Act.put, List.setIfInBounds_toArray, List.set_cons_zero, List.set_cons_succ]
              refine wpAnyH_take (i := 5) (v := ?_) rfl (by kernel_rfl) (by kernel_rfl) (by kernel_rfl) (fun _ _ _ h => h) (Or.inl ⟨by rfl, ?_⟩) hHeld ?_
              rotate_left
              · (intro wS hSw; (try dsimp only at hSw); (try go_split_ands); go_simp; try with_reducible rfl)
              try simp only [List.getElem_toArray, List.getElem_cons_succ, List.getElem_cons_zero, Act.put, List.setIfInBounds_toArray, List.set_cons_zero, List.set_cons_succ]
              refine wpAnyH_take (i := 6) (v := ?_) rfl (by kernel_rfl) (by kernel_rfl) (by kernel_rfl) (fun _ _ _ h => h) (Or.inl ⟨by rfl, ?_⟩) hHeld ?_
              rotate_left
              · (intro wS hSw; (try dsimp only at hSw); (try go_split_ands); go_simp; try with_reducible rfl)
              try simp only [List.getElem_toArray, List.getElem_cons_succ, List.getElem_cons_zero, Act.put, List.setIfInBounds_toArray, List.set_cons_zero, List.set_cons_succ]
              refine wpAnyH_take (i := 7) (v := ?_) rfl (by kernel_rfl) (by kernel_rfl) (by kernel_rfl) (fun _ _ _ h => h) (Or.inl ⟨by rfl, ?_⟩) hHeld ?_
              rotate_left
              · (intro wS hSw; (try dsimp only at hSw); (try go_split_ands); go_simp; try with_reducible rfl)
              try simp only [List.getElem_toArray, List.getElem_cons_succ, List.getElem_cons_zero, Act.put, List.setIfInBounds_toArray, List.set_cons_zero, List.set_cons_succ]
              refine wpAnyH_take (i := 8) (v := ?_) rfl (by kernel_rfl) (by kernel_rfl) (by kernel_rfl) (fun _ _ _ h => h) (Or.inl ⟨by rfl, ?_⟩) hHeld ?_
              rotate_left
              · (intro wS hSw; (try dsimp only at hSw); (try go_split_ands); go_simp; try with_reducible rfl)
              try simp only [List.getElem_toArray, List.getElem_cons_succ, List.getElem_cons_zero, Act.put, List.setIfInBounds_toArray, List.set_cons_zero, List.set_cons_succ]
              refine wpAnyH_take (i := 9) (v := ?_) rfl (by kernel_rfl) (by kernel_rfl) (by kernel_rfl) (fun _ _ _ h => h) (Or.inl ⟨by rfl, ?_⟩) hHeld ?_
              rotate_left
              · (intro wS hSw; (try dsimp only at hSw); (try go_split_ands); go_simp; try with_reducible rfl)
              try simp only [List.getElem_toArray, List.getElem_cons_succ, List.getElem_cons_zero, Act.put, List.setIfInBounds_toArray, List.set_cons_zero, List.set_cons_succ]
              refine wpAnyH_take (i := 10) (v := ?_) rfl (by kernel_rfl) (by kernel_rfl) (by kernel_rfl) (fun _ _ _ h => h) (Or.inl ⟨by rfl, ?_⟩) hHeld ?_
              rotate_left
              · (intro wS hSw; (try dsimp only at hSw); (try go_split_ands); go_simp; try with_reducible rfl)
              try simp only [List.getElem_toArray, List.getElem_cons_succ, List.getElem_cons_zero, Act.put, List.setIfInBounds_toArray, List.set_cons_zero, List.set_cons_succ]
              refine wpAnyH_ready (rs := [11]) (by kernel_rfl) (by simp) ?_
              refine AllReadyH.cons rfl (fun K hK => ?_) AllReadyH.nil
              go_simp
              (go_at_call 23; ((with_reducible refine (c _).mono ?_); rintro e Y ⟨rfl, hbY⟩))
              refine hK.out _ _ ?_ (fun hNext => ?_)
              · exact ⟨pkc hbY hHeld.1, pkc hbY hHeld.2.1, pkc hbY hHeld.2.2.1, pkc hbY hHeld.2.2.2.1, pkc hbY hHeld.2.2.2.2.1, pkc hbY hHeld.2.2.2.2.2.1, pkc hbY hHeld.2.2.2.2.2.2.1, pkc hbY hHeld.2.2.2.2.2.2.2.1, pkc hbY hHeld.2.2.2.2.2.2.2.2.1, pkc hbY hHeld.2.2.2.2.2.2.2.2.2.1, pkc hbY hHeld.2.2.2.2.2.2.2.2.2.2.1, pkc hbY hHeld.2.2.2.2.2.2.2.2.2.2.2.1, pkc hbY hHeld.2.2.2.2.2.2.2.2.2.2.2.2.1, pkc hbY hHeld.2.2.2.2.2.2.2.2.2.2.2.2.2.1, pkc hbY hHeld.2.2.2.2.2.2.2.2.2.2.2.2.2.2.1, pkc hbY hHeld.2.2.2.2.2.2.2.2.2.2.2.2.2.2.2.1, pkc hbY hHeld.2.2.2.2.2.2.2.2.2.2.2.2.2.2.2.2.1, pkc hbY hHeld.2.2.2.2.2.2.2.2.2.2.2.2.2.2.2.2.2.1, pkc hbY hHeld.2.2.2.2.2.2.2.2.2.2.2.2.2.2.2.2.2.2.1, pkc hbY hHeld.2.2.2.2.2.2.2.2.2.2.2.2.2.2.2.2.2.2.2.1, pkc hbY hHeld.2.2.2.2.2.2.2.2.2.2.2.2.2.2.2.2.2.2.2.2.1, pkc hbY hHeld.2.2.2.2.2.2.2.2.2.2.2.2.2.2.2.2.2.2.2.2.2.1, pkc hbY hHeld.2.2.2.2.2.2.2.2.2.2.2.2.2.2.2.2.2.2.2.2.2.2.1, pkc hbY hHeld.2.2.2.2.2.2.2.2.2.2.2.2.2.2.2.2.2.2.2.2.2.2.2.1, pkc hbY hHeld.2.2.2.2.2.2.2.2.2.2.2.2.2.2.2.2.2.2.2.2.2.2.2.2.1, pkc hbY hHeld.2.2.2.2.2.2.2.2.2.2.2.2.2.2.2.2.2.2.2.2.2.2.2.2.2.1, pb2 hHeld.2.2.2.2.2.2.2.2.2.2.2.2.2.2.2.2.2.2.2.2.2.2.2.2.2.2 hbY⟩
              clear hbY
              clear hK K hHeld
              have hHeld := hNext
              clear hNext
              try simp only [List.getElem_toArray, List.getElem_cons_succ, List.getElem_cons_zero, Act.put, List.setIfInBounds_toArray, List.set_cons_zero, List.set_cons_succ]
              refine wpAnyH_take (i := 12) (v := ?_) rfl (by kernel_rfl) (by kernel_rfl) (by kernel_rfl) (fun _ _ _ h => h) (Or.inl ⟨by rfl, ?_⟩) hHeld ?_
              rotate_left
              · (intro wS hSw; (try dsimp only at hSw); (try go_split_ands); go_simp; try with_reducible rfl)
              try simp only [List.getElem_toArray, List.getElem_cons_succ, List.getElem_cons_zero, Act.put, List.setIfInBounds_toArray, List.set_cons_zero, List.set_cons_succ]
              refine wpAnyH_take (i := 13) (v := ?_) rfl (by kernel_rfl) (by kernel_rfl) (by kernel_rfl) (fun _ _ _ h => h) (Or.inl ⟨by rfl, ?_⟩) hHeld ?_
              rotate_left
              · (intro wS hSw; (try dsimp only at hSw); (try go_split_ands); go_simp; try with_reducible rfl)
              try simp only [List.getElem_toArray, List.getElem_cons_succ, List.getElem_cons_zero, Act.put, List.setIfInBounds_toArray, List.set_cons_zero, List.set_cons_succ]
              refine wpAnyH_done (by kernel_rfl) ?_ _
              clear c0 c1 c2 c3 c4 c5 c6 c7 c8 c9 c10 c11 c12 d0 d1 d2 d3 d4 d5 d6 d7 d8 d9 d10 d11 d12 c hw1 hw2 hw4 htn
              have HE := Lib.hid hHeld.2.2.2.2.2.2.2.2.2.2.2.2.2.2.2.2.2.2.2.2.2.2.2.2.2.2
              clear hHeld
              go_wp2_with (fail)
              go_roundw
              case rel =>
                refine ⟨n + 1, B2, .inl (by omega), by go_num, rfl, ⟨fun h i h1 h2 => ?_, fun h => ?_⟩, pb2 HBX.out HE.out⟩
                · by_cases e : i = n + 1
                  · subst e; exact HSB.out.1 (of_decide_eq_true (HB9.out.trans h))
                  · exact HNO.out.1 (by simp) i h1 (by omega)
                · rw [← HB9.out]; exact decide_eq_true (HSB.out.2 (h (n + 1) (by omega) (by omega)))
              case measure => simp [intOf]; omega
          · have hsb : sb = Bs := by
              have : sb = true ↔ slo l := hno.trans ⟨fun h i h1 h2 => h i h1 (by omega), fun h i h1 h2 => h i h1 (by omega)⟩
              rw [← HBS.out]
              cases sb
              · exact (decide_eq_false (fun x => by have := this.2 x; cases this)).symm
              · exact (decide_eq_true (this.1 rfl)).symm
            subst hsb
            have hnl : ¬ (n : Int) + 1 < (l.length : Int) := by omega
            have HBZ := Lib.hid (pb2 HB3.out HBX.out)
            clear hno hb hn
            by_cases hcr : l.length = cr
            · have hBo : Bo = true := HBO2.out.trans (decide_eq_true hcr)
              subst hBo
              subst hcr
              go_wp2_with (first
                | (go_at_call 25; ((with_reducible refine (co _ HBZ.out).mono ?_); clear co; rintro e w4 ⟨rfl, hb4⟩; have HB4 := Lib.hid (pb2 HBZ.out hb4); clear hb4))
                | (go_at_call 24; ((with_reducible refine (cs _ HB4.out).mono ?_); clear cs; rintro e w5 ⟨rfl, hb5⟩; have HB5 := Lib.hid (pb2 HB4.out hb5); clear hb5))
                | (go_at_call 21; ((with_reducible refine (ca _ HB5.out).mono ?_); clear ca; rintro e wa ⟨rfl, hba⟩; have HBa := Lib.hid (pb2 HB5.out hba); clear hba))
                | fail)
              go_ret
              exact ⟨by simp, HBa.out⟩
            · have hBo : Bo = false := HBO2.out.trans (decide_eq_false hcr)
              subst hBo
              have hq : ((l.length : Int) == (cr : Int)) = false := by simpa using fun e => hcr (by omega)
              have hq2 : ¬ (l.length : Int) = (cr : Int) := by omega
              clear hcr
              go_wp2_with (first
                | (go_at_call 25; ((with_reducible refine (co _ HBZ.out).mono ?_); clear co; rintro e w4 ⟨rfl, hb4⟩; have HB4 := Lib.hid (pb2 HBZ.out hb4); clear hb4))
                | (go_at_call 24; ((with_reducible refine (cs _ HB4.out).mono ?_); clear cs; rintro e w5 ⟨rfl, hb5⟩; have HB5 := Lib.hid (pb2 HB4.out hb5); clear hb5))
                | (go_at_call 21; ((with_reducible refine (ca _ HB5.out).mono ?_); clear ca; rintro e wa ⟨rfl, hba⟩; have HBa := Lib.hid (pb2 HB5.out hba); clear hba))
                | fail)
              go_ret
              exact ⟨by simp [hq, hq2], HBa.out⟩

set_option maxRecDepth 100000 in
theorem lifted (os : Os) (started : os.Started) (H : Type) (enc : TypeId × Value → H) :
    ReturnsInHanded {} Try.checked os 7 .any (Rows.pastCountsSpec.pre6 enc Try.prog Try.f7 Rows.pastCountsRow.domain false) (Rows.pastCountsSpec.post enc Try.prog Try.f7 false true false false) := by
  refine returnsInHanded_of_change_sized (C := Try.checked) own started (by kernel_rfl) Try.func7
    (ChangeSpec.witness6 (enc := enc) (C := Try.checked) false ⟨#[], #[.slice none 0 0], []⟩ 8 (by kernel_rfl) (by kernel_rfl) (by kernel_rfl) (by kernel_rfl)) ?_
  intro W base args ds gs before hval0 hW hcnd hsz _
  have hval : ∀ (j : Nat) t v, Try.f7.params[j]? = some t → args[j]? = some v → Value.okWide Try.prog W .any base t v := hval0
  have hW' := hW
  obtain ⟨p, q, hA0, hV, rfl, hfz, hnd⟩ := hW
  have hA : DataW.TrodAll enc Try.prog W 0 (fun _ => true) true Try.f7.params.toList args.toList ds p := hA0
  rw [Try.params7] at hA hval
  obtain ⟨v0, vs0, d0, ds0, p0, q0, hargs, rfl, rfl, h0, r0⟩ := trodAll_cons hA
  obtain ⟨rfl, rfl, rfl⟩ := trodAll_nil r0
  obtain rfl : args = #[v0] := by cases args; simp_all
  obtain ⟨rfl, rfl⟩ := trodVars_none hV
  have k0 := h0
  have lt0 : ∀ x ∈ p0, x.block < W.heap.size := by obtain ⟨m, hm⟩ := k0; exact DataW.trod_lt m _ _ _ hm
  obtain ⟨b0, l0, c0, rfl⟩ := okWide_slice Try.underlying52 (hval 0 52 v0 rfl rfl)
  obtain ⟨a0, cap0, z0, e0, w0, s0⟩ := open_events (enc := enc) (w := W) (v := .slice b0 l0 c0) (fuel := h0.choose) (by simpa [Value.cells] using h0.choose_spec) (fun n hn => by simpa using List.all_eq_true.1 hsz n (DataW.weights_mem_each (j := 0) rfl rfl n hn))
  rw [e0] at hval k0 h0 hW' hval0 hA0
  clear hA0 hval0
  rw [e0]; refine (walk a0 cap0 z0 W w0 s0).mono fun e W' ⟨he, bel⟩ => ?_
  subst he
  exact ⟨_, rfl, _, _, _, [], _, [], hW', trodAll_mk1 (shut_bool Try.underlying4 _), (trodAll_cons_mk (Below.trod laidOut (by kernel_rfl) (of_decide_eq_true (by kernel_rfl)) k0 bel lt0) trodAll_mk0), rfl, bel.frame _, fun h => by cases h⟩

theorem over : Rows.pastCountsRow.holds Try.pinned (OpenSpec.ofChange Rows.pastCountsSpec) :=
  OpenClaim.holds_of_wide 7 Try.f7 rfl rfl rfl rfl rfl rfl rfl ⟨rfl, rfl, rfl, rfl, rfl⟩ rfl rfl rfl rfl rfl (by kernel_rfl) Try.func7 (by kernel_rfl)
    (of_decide_eq_true (by kernel_rfl)) (by unfold Func.isWrapper; first | (rw [if_pos (by decide +kernel)]; kernel_rfl) | (rw [if_neg (by decide +kernel)]; exact ⟨rfl, rfl⟩))
    (fun os started H enc _ => lifted os started H enc)

theorem pastCountsHolds : Rows.PastCountsSaid := over
#print axioms pastCountsHolds
end Go.Proofs.Ytdhonompnbphlaa.pastCounts
