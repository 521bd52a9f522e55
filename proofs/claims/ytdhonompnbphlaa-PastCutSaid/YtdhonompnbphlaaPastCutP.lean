/- PastCut (P18.1, P18.2): of a history that may be and can be gone through: each beginning of it may be; its calls are those of the whole that began there, with the same operations; what has returned in the beginning returned there in the whole, and what has not, has not in the whole or only behind it; if the whole is solo, the beginning is. No condition. -/
import Derived.Test.YtdhonompnbphlaaRows
import Derived.Test.YtdhonompnbphlaaPaE
import Derived.LoopTactic
import Derived.WalkKit
import Derived.ProofKit
import Derived.OpenShut
import Derived.ChangeOld
import Derived.Below
namespace Go.Proofs.Ytdhonompnbphlaa.pastCut
open Go.ChangeShapes Go.WideShapes Go.ChangeAt Go.RowKit
set_option linter.all false

theorem own : ownKnob Try.prog.godebug = none := by kernel_rfl
theorem laidOut : laidOutB Try.prog = true := by kernel_rfl

theorem wrapU64C (a : Int) : IntKind.u64.wrap a = a % 18446744073709551616 := by first | rfl | simp [IntKind.wrap]
/-- int(uint64(a) % uint64(d)). -/
theorem umodC (a d : Int) (h : 0 < d) (h2 : d ≤ 9223372036854775807) : ∃ m : Nat, (m : Int) < d ∧ wrap64 ((IntKind.u64.wrap a).tmod d) = m := by
  have h0 : 0 ≤ a % 18446744073709551616 := Int.emod_nonneg _ (by decide)
  have h1 := Int.emod_nonneg (a % 18446744073709551616) (show d ≠ 0 by omega)
  have h3 := Int.emod_lt_of_pos (a % 18446744073709551616) h
  refine ⟨((a % 18446744073709551616) % d).toNat, by omega, ?_⟩
  rw [wrapU64C, Int.tmod_eq_emod_of_nonneg h0]
  unfold wrap64
  omega

set_option maxRecDepth 100000 in
set_option maxHeartbeats 12800000 in
theorem walk (a0 : Option Addr) (cap0 : Nat) (z0 : List EvD) (a1 : Int) (w : World) (w0 : Es w a0 cap0 z0) (s0 : MidE z0) (w1 : (Lit.int .i64 a1).wf = true) :
    Calls Try.prog 5 #[.slice a0 z0.length cap0, .int .i64 a1] w fun e w' => e = .returned (.bool true) ∧ Below w.heap.size w w' := by
  have hlg := light_anyE a0 cap0 z0 w w0 s0
  have ca := fun W (hb : Below w.heap.size w W) => pawake_any W
  by_cases hL : LgtE z0
  rotate_left
  · have cl := hlg 1 (fun h => absurd h hL) (fun _ => rfl)
    clear hlg hL
    go_enter Try.func5, Try.ntmps5
    go_wp2_with (first
      | (go_at_call 18; ((with_reducible refine cl.mono ?_); clear cl; rintro e w1 ⟨rfl, hb1⟩; have HB1 := Lib.hid hb1; clear hb1))
      | (go_at_call 21; ((with_reducible refine (ca _ HB1.out).mono ?_); clear ca; rintro e wa ⟨rfl, hba⟩; have HBa := Lib.hid (pb2 HB1.out hba); clear hba))
      | fail)
    go_ret
    exact ⟨by simp, HBa.out⟩
  have cl := hlg 0 (fun _ => rfl) (fun h => absurd hL h)
  have hN3 : z0.length ≤ 300 := Nat.le_trans hL.1 (by decide)
  have hps : ∀ e ∈ z0, e.a.ps.length ≤ 1100000 := fun e he => Nat.le_trans (hL.ps e he) (by decide)
  have cr := fun W (hb : Below w.heap.size w W) => rmaypast_any a0 cap0 z0 W (w0.keep hb) hN3
  cases hm : mtch z0 with
  | none =>
    rw [hm] at cr
    dsimp only [Option.isSome] at cr
    clear hlg hL w0 s0 hps hm
    go_enter Try.func5, Try.ntmps5
    go_wp2_with (first
      | (go_at_call 18; ((with_reducible refine cl.mono ?_); clear cl; rintro e w1 ⟨rfl, hb1⟩; have HB1 := Lib.hid hb1; clear hb1))
      | (go_at_call 20; ((with_reducible refine (cr _ HB1.out).mono ?_); clear cr; rintro e w2 ⟨rfl, hb2⟩; have HB2 := Lib.hid (pb2 HB1.out hb2); clear hb2))
      | (go_at_call 21; ((with_reducible refine (ca _ HB2.out).mono ?_); clear ca; rintro e wa ⟨rfl, hba⟩; have HBa := Lib.hid (pb2 HB2.out hba); clear hba))
      | fail)
    go_ret
    exact ⟨by simp, HBa.out⟩
  | some s1 =>
  rw [hm] at cr
  dsimp only [Option.isSome] at cr
  obtain ⟨k, hk, hum⟩ := umodC a1 ((z0.length : Int) + 1) (by omega) (by omega)
  have hkl : k ≤ z0.length := by omega
  obtain ⟨htl, hEk⟩ := w0.take k hkl
  obtain ⟨s2, hs2⟩ := mtc_some (h := z0) (n := z0.length) hm k hkl
  have hmk : mtch (z0.take k) = some s2 := by rw [mt_take z0 k hkl]; exact hs2
  have hE := mtc_ext z0 k s2 hs2 z0.length hkl s1 hm
  have hI2 := minv z0 k s2 hs2
  have hkn : (z0.take k).length ≤ 300 := by rw [htl]; omega
  have hpk : ∀ e ∈ z0.take k, e.a.ps.length ≤ 1100000 := fun e he => hps e (List.mem_of_mem_take he)
  have cm := fun W (hb : Below w.heap.size w W) => may_anyP a0 cap0 (z0.take k) W (hEk.keep hb) hkn true (by rw [hmk]; rfl)
  have cc := fun W (hb : Below w.heap.size w W) => calls_any a0 cap0 z0 W (w0.keep hb) hN3 hps s1.l (by unfold callsL; rw [hm])
  have cck := fun W (hb : Below w.heap.size w W) => calls_any a0 cap0 (z0.take k) W (hEk.keep hb) hkn hpk s2.l (by unfold callsL; rw [hmk])
  obtain ⟨Bs, hBs⟩ : ∃ B, decide (slo s1.l) = B := ⟨_, rfl⟩
  obtain ⟨Bk, hBk⟩ : ∃ B, decide (slo s2.l) = B := ⟨_, rfl⟩
  have hsk : Bs = true → Bk = true := fun h => by
    rw [← hBk]
    exact decide_eq_true (hE.slo hI2 (of_decide_eq_true (hBs.trans h)))
  have cs := fun W (hb : Below w.heap.size w W) => solo_any a0 cap0 z0 W (w0.keep hb) hN3 Bs (by unfold soloB; rw [hm]; exact hBs)
  have csk := fun W (hb : Below w.heap.size w W) => solo_any a0 cap0 (z0.take k) W (hEk.keep hb) hkn Bk (by unfold soloB; rw [hmk]; exact hBk)
  rw [htl] at cm cck csk
  have hl1 : s2.l.length ≤ s1.l.length := hE.1
  have hl2 : s1.l.length ≤ 200 := by rw [(minv z0 _ s1 hm).nb]; exact Nat.le_trans (cnt_le z0 _).1 hL.1
  have HE := Lib.hid hE
  obtain ⟨la, hla⟩ : ∃ l, s1.l = l := ⟨_, rfl⟩
  obtain ⟨lb, hlb⟩ : ∃ l, s2.l = l := ⟨_, rfl⟩
  rw [hla] at cc hl1 hl2 HE
  rw [hlb] at cck hl1 HE
  have hz1 := w0.1
  have hz2 := w0.2.1
  unfold maxLen at hz2
  have hk0 : (0 : Int) ≤ (k : Int) := Int.natCast_nonneg k
  have hk1 : (k : Int) ≤ (z0.length : Int) := by omega
  have hk2 : (k : Int) ≤ (cap0 : Int) := by omega
  have hnn : z0.length ≤ 200 := hL.1
  clear hlg hL w0 s0 hps hm htl hEk hs2 hmk hE hI2 hkn hpk hBs hBk hla hlb hk
  go_enter Try.func5, Try.ntmps5
  go_wp2_with (first
    | (go_at_call 18; ((with_reducible refine cl.mono ?_); clear cl; rintro e w1 ⟨rfl, hb1⟩; have HB1 := Lib.hid hb1; clear hb1))
    | (go_at_call 20; ((with_reducible refine (cr _ HB1.out).mono ?_); clear cr; rintro e w2 ⟨rfl, hb2⟩; have HB2 := Lib.hid (pb2 HB1.out hb2); clear hb2))
    | fail)
  rw [hum]
  clear hum
  refine wp_region_held_drew (S := fun W => Below w2.heap.size w2 W) (by kernel_rfl) (by first | exact Below.refl _ _ | exact (Below.refl _ _).drew) (fun hHeld => ?_)
  refine wpAnyH_take (i := 0) (v := ?_) rfl (by kernel_rfl) (by kernel_rfl) (by kernel_rfl) (fun _ _ _ h => h) (Or.inl ⟨by rfl, ?_⟩) hHeld ?_
  rotate_left
  · (intro wS hSw; (try dsimp only at hSw); (try go_split_ands); go_simp; try with_reducible rfl)
  try simp only [List.getElem_toArray, List.getElem_cons_succ, List.getElem_cons_zero, Act.put, List.setIfInBounds_toArray, List.set_cons_zero, List.set_cons_succ]
  refine wpAnyH_take (i := 2) (v := ?_) rfl (by kernel_rfl) (by kernel_rfl) (by kernel_rfl) (fun _ _ _ h => h) (Or.inl ⟨by rfl, ?_⟩) hHeld ?_
  rotate_left
  · (intro wS hSw; (try dsimp only at hSw); (try go_split_ands); go_simp; try with_reducible rfl)
  try simp only [List.getElem_toArray, List.getElem_cons_succ, List.getElem_cons_zero, Act.put, List.setIfInBounds_toArray, List.set_cons_zero, List.set_cons_succ]
  refine wpAnyH_take (i := 3) (v := ?_) rfl (by kernel_rfl) (by kernel_rfl) (by kernel_rfl) (fun _ _ _ h => h) (Or.inl ⟨by rfl, ?_⟩) hHeld ?_
  rotate_left
  · (intro wS hSw; (try dsimp only at hSw); (try go_split_ands); go_simp; try with_reducible rfl)
  try simp only [List.getElem_toArray, List.getElem_cons_succ, List.getElem_cons_zero, Act.put, List.setIfInBounds_toArray, List.set_cons_zero, List.set_cons_succ]
  refine wpAnyH_take (i := 4) (v := ?_) rfl (by kernel_rfl) (by kernel_rfl) (by kernel_rfl) (fun _ _ _ h => h) (Or.inl ⟨by rfl, ?_⟩) hHeld ?_
  rotate_left
  · (intro wS hSw; (try dsimp only at hSw); (try go_split_ands); go_simp; try with_reducible rfl)
  try simp only [List.getElem_toArray, List.getElem_cons_succ, List.getElem_cons_zero, Act.put, List.setIfInBounds_toArray, List.set_cons_zero, List.set_cons_succ]
  refine wpAnyH_ready (rs := [1]) (by kernel_rfl) (by simp) ?_
  refine AllReadyH.cons rfl (fun K hK => ?_) AllReadyH.nil
  go_simp
  (go_at_call 22; ((with_reducible refine (cc _ (pb2 HB2.out hHeld)).mono ?_); rintro e Y ⟨aa, ac, rfl, hca, hbY⟩))
  refine hK.out _ _ ?_ (fun hNext => ?_)
  · exact pb2 hHeld hbY
  have CA1 := Lib.hid hca
  clear hbY hca
  clear hK K hHeld
  have hHeld := hNext
  clear hNext
  try simp only [List.getElem_toArray, List.getElem_cons_succ, List.getElem_cons_zero, Act.put, List.setIfInBounds_toArray, List.set_cons_zero, List.set_cons_succ]
  refine wpAnyH_ready (rs := [5]) (by kernel_rfl) (by simp) ?_
  refine AllReadyH.cons rfl (fun K hK => ?_) AllReadyH.nil
  go_simp
  (go_at_call 22; ((with_reducible refine (cck _ (pb2 HB2.out hHeld)).mono ?_); rintro e Y2 ⟨ba, bc, rfl, hcb, hbY⟩))
  refine hK.out _ _ ?_ (fun hNext => ?_)
  · exact pb2 hHeld hbY
  have CA2 := Lib.hid (CA1.out.keep hbY)
  have CB2 := Lib.hid hcb
  clear hbY hcb
  clear hK K hHeld
  have hHeld := hNext
  clear hNext
  try simp only [List.getElem_toArray, List.getElem_cons_succ, List.getElem_cons_zero, Act.put, List.setIfInBounds_toArray, List.set_cons_zero, List.set_cons_succ]
  refine wpAnyH_take (i := 6) (v := ?_) rfl (by kernel_rfl) (by kernel_rfl) (by kernel_rfl) (fun _ _ _ h => h) (Or.inl ⟨by rfl, ?_⟩) hHeld ?_
  rotate_left
  · (intro wS hSw; (try dsimp only at hSw); (try go_split_ands); go_simp; try with_reducible rfl)
  try simp only [List.getElem_toArray, List.getElem_cons_succ, List.getElem_cons_zero, Act.put, List.setIfInBounds_toArray, List.set_cons_zero, List.set_cons_succ]
  refine wpAnyH_take (i := 7) (v := ?_) rfl (by kernel_rfl) (by kernel_rfl) (by kernel_rfl) (fun _ _ _ h => h) (Or.inl ⟨by rfl, ?_⟩) hHeld ?_
  rotate_left
  · (intro wS hSw; (try dsimp only at hSw); (try go_split_ands); go_simp; try with_reducible rfl)
  try simp only [List.getElem_toArray, List.getElem_cons_succ, List.getElem_cons_zero, Act.put, List.setIfInBounds_toArray, List.set_cons_zero, List.set_cons_succ]
  refine wpAnyH_done (by kernel_rfl) ?_ _
  have HB3 := Lib.hid (pb2 HB2.out hHeld)
  clear hHeld
  have hca1 := CA2.out.1
  have hca2 := CA2.out.2.1
  have hcb1 := CB2.out.1
  have hcb2 := CB2.out.2.1
  unfold maxLen at hca2 hcb2
  have hlg1 : (lb.length : Int) ≤ (la.length : Int) := by omega
  have hlg2 : ¬ (la.length : Int) < (lb.length : Int) := by omega
  have hend : ∃ B : Bool, B = Bs := ⟨_, rfl⟩
  cases Bs
  · go_wp2_with (first
      | (go_at_call 19; ((with_reducible refine (cm _ HB3.out).mono ?_); clear cm; rintro e w4 ⟨rfl, hb4⟩; have HB4 := Lib.hid (pb2 HB3.out hb4); have CA4 := Lib.hid (CA2.out.keep hb4); have CB4 := Lib.hid (CB2.out.keep hb4); clear hb4))
      | (go_at_call 24; ((with_reducible refine (cs _ HB4.out).mono ?_); clear cs; rintro e w5 ⟨rfl, hb5⟩; have HB5 := Lib.hid (pb2 HB4.out hb5); have CA5 := Lib.hid (CA4.out.keep hb5); have CB5 := Lib.hid (CB4.out.keep hb5); clear hb5))
      | fail)
    go_loopw [58] (fun i wr => ∃ n : Nat, n ≤ lb.length ∧ i = .int .i64 n ∧ Below w5.heap.size w5 wr) (fun i _ => lb.length - (intOf i).toNat)
    case atStart => exact ⟨0, Nat.zero_le _, rfl, Below.refl _ _⟩
    case round =>
      obtain ⟨n, hn, rfl, hb⟩ := hrel
      have HBR := Lib.hid hb
      by_cases hlt : n < lb.length
      rotate_left
      · obtain rfl : n = lb.length := by omega
        have HBZ := Lib.hid (pb2 HB5.out hb)
        clear hb hn
        go_wp2_with (first
          | (go_at_call 21; ((with_reducible refine (ca _ HBZ.out).mono ?_); clear ca; rintro e wa ⟨rfl, hba⟩; have HBa := Lib.hid (pb2 HBZ.out hba); clear hba))
          | fail)
        go_ret
        exact ⟨by simp, HBa.out⟩
      obtain ⟨c, hc⟩ : ∃ q, lb[n]? = some q := ⟨_, List.getElem?_eq_getElem hlt⟩
      obtain ⟨d, hd, hdt, hdf, hdo, hdp, hdn⟩ := HE.out.2 n c hc
      obtain ⟨b1, o1, pa1, pc1, rfl, hca⟩ := (CB5.out.keep hb).2.2 n c hc
      obtain ⟨b2, o2, pa2, pc2, rfl, hcb⟩ := ((CA5.out.keep hb).keep (pal (.cells #[.int .i64 c.t, .int .i64 c.f, .int .i64 c.g, .int .i64 c.o.c, .int .i64 c.o.k, .int .i64 c.o.h, .int .i64 c.o.v, .int .i64 c.a.err, .bool c.a.ok, .int .i64 c.a.k, .int .i64 c.a.v, .int .i64 c.a.n, .slice pa1 c.a.ps.length pc1] 59))).2.2 n d hd
      have hn0 : (0 : Int) ≤ (n : Int) := Int.natCast_nonneg n
      have hnl : (n : Int) < (lb.length : Int) := Int.ofNat_lt.2 hlt
      have hnl2 : (n : Int) < (la.length : Int) := by omega
      obtain ⟨c0, c1, c2, c3, c4, c5, c6, c7, c8, c9, c10, c11, c12⟩ := hca.ex
      obtain ⟨-, d1, d2, d3, d4, d5, d6, -⟩ := hcb.ex
      have HEB := Lib.hid (Bq.new wr #[.int .i64 c.t, .int .i64 c.f, .int .i64 c.g, .int .i64 c.o.c, .int .i64 c.o.k, .int .i64 c.o.h, .int .i64 c.o.v, .int .i64 c.a.err, .bool c.a.ok, .int .i64 c.a.k, .int .i64 c.a.v, .int .i64 c.a.n, .slice pa1 c.a.ps.length pc1] 59)
      have HBA := Lib.hid (pb1 hb (.cells #[.int .i64 c.t, .int .i64 c.f, .int .i64 c.g, .int .i64 c.o.c, .int .i64 c.o.k, .int .i64 c.o.h, .int .i64 c.o.v, .int .i64 c.a.err, .bool c.a.ok, .int .i64 c.a.k, .int .i64 c.a.v, .int .i64 c.a.n, .slice pa1 c.a.ps.length pc1] 59))
      clear hc hd hdt hca hcb hb
      obtain ⟨t, f, g, ⟨oc, ok, oh, ov⟩, ⟨ae, ao, ak, av, an, ap⟩⟩ := c
      obtain ⟨t', f', g', ⟨oc', ok', oh', ov'⟩, A'⟩ := d
      dsimp only at hdf hdo hdp hdn c0 c1 c2 c3 c4 c5 c6 c7 c8 c9 c10 c11 c12 d1 d2 d3 d4 d5 d6 HEB HBA
      cases hdf
      cases hdo
      go_wp2_with (fail)
      have q1 := HEB.out.at_ 1 _ rfl
      have q2 := HEB.out.at_ 2 _ rfl
      have q3 := HEB.out.at_ 3 _ rfl
      have q4 := HEB.out.at_ 4 _ rfl
      have q5 := HEB.out.at_ 5 _ rfl
      have q6 := HEB.out.at_ 6 _ rfl
      clear c0 c1 c2 c3 c4 c5 c6 c7 c8 c9 c10 c11 c12
      generalize wr.alloc (.cells #[.int .i64 t, .int .i64 f, .int .i64 g, .int .i64 oc, .int .i64 ok, .int .i64 oh, .int .i64 ov, .int .i64 ae, .bool ao, .int .i64 ak, .int .i64 av, .int .i64 an, .slice pa1 ap.length pc1] 59) = W2 at *
      clear HEB
      by_cases hg : 0 ≤ g
      · obtain ⟨rfl, -⟩ := hdp hg
        have hgd : decide (g' < 0) = false := decide_eq_false (by omega)
        have hgn : ¬ g' < 0 := by omega
        have hgt : decide (0 ≤ g') = true := decide_eq_true hg
        clear hdp hdn
        go_quiet (fail)
        go_wp2_with (fail)
        go_roundw
        case rel => exact ⟨n + 1, by omega, by go_num, below_drewN HBA.out _⟩
        case measure => simp [intOf]; omega
      · have hgl : g < 0 := by omega
        have hgd : decide (0 ≤ g) = false := decide_eq_false hg
        have hgt : decide (g < 0) = true := decide_eq_true hgl
        have hdn2 := hdn hgl
        clear hdp hdn
        by_cases hg2 : 0 ≤ g'
        · have hkg : (k : Int) ≤ g' := by omega
          have hkn : ¬ g' < (k : Int) := by omega
          have hgt2 : decide (0 ≤ g') = true := decide_eq_true hg2
          have hkd : decide (g' < (k : Int)) = false := decide_eq_false hkn
          clear hdn2
          go_quiet (fail)
          go_wp2_with (fail)
          go_roundw
          case rel => exact ⟨n + 1, by omega, by go_num, below_drewN HBA.out _⟩
          case measure => simp [intOf]; omega
        · have hgd2 : decide (0 ≤ g') = false := decide_eq_false hg2
          clear hdn2
          go_quiet (fail)
          go_wp2_with (fail)
          go_roundw
          case rel => exact ⟨n + 1, by omega, by go_num, below_drewN HBA.out _⟩
          case measure => simp [intOf]; omega
  · obtain rfl : Bk = true := hsk rfl
    go_wp2_with (first
      | (go_at_call 19; ((with_reducible refine (cm _ HB3.out).mono ?_); clear cm; rintro e w4 ⟨rfl, hb4⟩; have HB4 := Lib.hid (pb2 HB3.out hb4); have CA4 := Lib.hid (CA2.out.keep hb4); have CB4 := Lib.hid (CB2.out.keep hb4); clear hb4))
      | (go_at_call 24; ((with_reducible refine (cs _ HB4.out).mono ?_); clear cs; rintro e w5 ⟨rfl, hb5⟩; have HB5 := Lib.hid (pb2 HB4.out hb5); have CA5 := Lib.hid (CA4.out.keep hb5); have CB5 := Lib.hid (CB4.out.keep hb5); clear hb5))
      | (go_at_call 24; ((with_reducible refine (csk _ HB5.out).mono ?_); clear csk; rintro e w6 ⟨rfl, hb6⟩; have HB6 := Lib.hid (pb2 HB5.out hb6); have CA6 := Lib.hid (CA5.out.keep hb6); have CB6 := Lib.hid (CB5.out.keep hb6); clear hb6))
      | fail)
    go_loopw [58] (fun i wr => ∃ n : Nat, n ≤ lb.length ∧ i = .int .i64 n ∧ Below w6.heap.size w6 wr) (fun i _ => lb.length - (intOf i).toNat)
    case atStart => exact ⟨0, Nat.zero_le _, rfl, Below.refl _ _⟩
    case round =>
      obtain ⟨n, hn, rfl, hb⟩ := hrel
      have HBR := Lib.hid hb
      by_cases hlt : n < lb.length
      rotate_left
      · obtain rfl : n = lb.length := by omega
        have HBZ := Lib.hid (pb2 HB6.out hb)
        clear hb hn
        go_wp2_with (first
          | (go_at_call 21; ((with_reducible refine (ca _ HBZ.out).mono ?_); clear ca; rintro e wa ⟨rfl, hba⟩; have HBa := Lib.hid (pb2 HBZ.out hba); clear hba))
          | fail)
        go_ret
        exact ⟨by simp, HBa.out⟩
      obtain ⟨c, hc⟩ : ∃ q, lb[n]? = some q := ⟨_, List.getElem?_eq_getElem hlt⟩
      obtain ⟨d, hd, hdt, hdf, hdo, hdp, hdn⟩ := HE.out.2 n c hc
      obtain ⟨b1, o1, pa1, pc1, rfl, hca⟩ := (CB6.out.keep hb).2.2 n c hc
      obtain ⟨b2, o2, pa2, pc2, rfl, hcb⟩ := ((CA6.out.keep hb).keep (pal (.cells #[.int .i64 c.t, .int .i64 c.f, .int .i64 c.g, .int .i64 c.o.c, .int .i64 c.o.k, .int .i64 c.o.h, .int .i64 c.o.v, .int .i64 c.a.err, .bool c.a.ok, .int .i64 c.a.k, .int .i64 c.a.v, .int .i64 c.a.n, .slice pa1 c.a.ps.length pc1] 59))).2.2 n d hd
      have hn0 : (0 : Int) ≤ (n : Int) := Int.natCast_nonneg n
      have hnl : (n : Int) < (lb.length : Int) := Int.ofNat_lt.2 hlt
      have hnl2 : (n : Int) < (la.length : Int) := by omega
      obtain ⟨c0, c1, c2, c3, c4, c5, c6, c7, c8, c9, c10, c11, c12⟩ := hca.ex
      obtain ⟨-, d1, d2, d3, d4, d5, d6, -⟩ := hcb.ex
      have HEB := Lib.hid (Bq.new wr #[.int .i64 c.t, .int .i64 c.f, .int .i64 c.g, .int .i64 c.o.c, .int .i64 c.o.k, .int .i64 c.o.h, .int .i64 c.o.v, .int .i64 c.a.err, .bool c.a.ok, .int .i64 c.a.k, .int .i64 c.a.v, .int .i64 c.a.n, .slice pa1 c.a.ps.length pc1] 59)
      have HBA := Lib.hid (pb1 hb (.cells #[.int .i64 c.t, .int .i64 c.f, .int .i64 c.g, .int .i64 c.o.c, .int .i64 c.o.k, .int .i64 c.o.h, .int .i64 c.o.v, .int .i64 c.a.err, .bool c.a.ok, .int .i64 c.a.k, .int .i64 c.a.v, .int .i64 c.a.n, .slice pa1 c.a.ps.length pc1] 59))
      clear hc hd hdt hca hcb hb
      obtain ⟨t, f, g, ⟨oc, ok, oh, ov⟩, ⟨ae, ao, ak, av, an, ap⟩⟩ := c
      obtain ⟨t', f', g', ⟨oc', ok', oh', ov'⟩, A'⟩ := d
      dsimp only at hdf hdo hdp hdn c0 c1 c2 c3 c4 c5 c6 c7 c8 c9 c10 c11 c12 d1 d2 d3 d4 d5 d6 HEB HBA
      cases hdf
      cases hdo
      go_wp2_with (fail)
      have q1 := HEB.out.at_ 1 _ rfl
      have q2 := HEB.out.at_ 2 _ rfl
      have q3 := HEB.out.at_ 3 _ rfl
      have q4 := HEB.out.at_ 4 _ rfl
      have q5 := HEB.out.at_ 5 _ rfl
      have q6 := HEB.out.at_ 6 _ rfl
      clear c0 c1 c2 c3 c4 c5 c6 c7 c8 c9 c10 c11 c12
      generalize wr.alloc (.cells #[.int .i64 t, .int .i64 f, .int .i64 g, .int .i64 oc, .int .i64 ok, .int .i64 oh, .int .i64 ov, .int .i64 ae, .bool ao, .int .i64 ak, .int .i64 av, .int .i64 an, .slice pa1 ap.length pc1] 59) = W2 at *
      clear HEB
      by_cases hg : 0 ≤ g
      · obtain ⟨rfl, -⟩ := hdp hg
        have hgd : decide (g' < 0) = false := decide_eq_false (by omega)
        have hgn : ¬ g' < 0 := by omega
        have hgt : decide (0 ≤ g') = true := decide_eq_true hg
        clear hdp hdn
        go_quiet (fail)
        go_wp2_with (fail)
        go_roundw
        case rel => exact ⟨n + 1, by omega, by go_num, below_drewN HBA.out _⟩
        case measure => simp [intOf]; omega
      · have hgl : g < 0 := by omega
        have hgd : decide (0 ≤ g) = false := decide_eq_false hg
        have hgt : decide (g < 0) = true := decide_eq_true hgl
        have hdn2 := hdn hgl
        clear hdp hdn
        by_cases hg2 : 0 ≤ g'
        · have hkg : (k : Int) ≤ g' := by omega
          have hkn : ¬ g' < (k : Int) := by omega
          have hgt2 : decide (0 ≤ g') = true := decide_eq_true hg2
          have hkd : decide (g' < (k : Int)) = false := decide_eq_false hkn
          clear hdn2
          go_quiet (fail)
          go_wp2_with (fail)
          go_roundw
          case rel => exact ⟨n + 1, by omega, by go_num, below_drewN HBA.out _⟩
          case measure => simp [intOf]; omega
        · have hgd2 : decide (0 ≤ g') = false := decide_eq_false hg2
          clear hdn2
          go_quiet (fail)
          go_wp2_with (fail)
          go_roundw
          case rel => exact ⟨n + 1, by omega, by go_num, below_drewN HBA.out _⟩
          case measure => simp [intOf]; omega

set_option maxRecDepth 100000 in
theorem lifted (os : Os) (started : os.Started) (H : Type) (enc : TypeId × Value → H) :
    ReturnsInHanded {} Try.checked os 5 .any (Rows.pastCutSpec.pre6 enc Try.prog Try.f5 Rows.pastCutRow.domain false) (Rows.pastCutSpec.post enc Try.prog Try.f5 false true false false) := by
  refine returnsInHanded_of_change_sized (C := Try.checked) own started (by kernel_rfl) Try.func5
    (ChangeSpec.witness6 (enc := enc) (C := Try.checked) false ⟨#[], #[.slice none 0 0, .int .i64 0], []⟩ 8 (by kernel_rfl) (by kernel_rfl) (by kernel_rfl) (by kernel_rfl)) ?_
  intro W base args ds gs before hval0 hW hcnd hsz _
  have hval : ∀ (j : Nat) t v, Try.f5.params[j]? = some t → args[j]? = some v → Value.okWide Try.prog W .any base t v := hval0
  have hW' := hW
  obtain ⟨p, q, hA0, hV, rfl, hfz, hnd⟩ := hW
  have hA : DataW.TrodAll enc Try.prog W 0 (fun _ => true) true Try.f5.params.toList args.toList ds p := hA0
  rw [Try.params5] at hA hval
  obtain ⟨v0, vs0, d0, ds0, p0, q0, hargs, rfl, rfl, h0, r0⟩ := trodAll_cons hA
  obtain ⟨v1, vs1, d1, ds1, p1, q1, rfl, rfl, rfl, h1, r1⟩ := trodAll_cons r0
  obtain ⟨rfl, rfl, rfl⟩ := trodAll_nil r1
  obtain rfl : args = #[v0, v1] := by cases args; simp_all
  obtain ⟨rfl, rfl⟩ := trodVars_none hV
  have k0 := h0
  have lt0 : ∀ x ∈ p0, x.block < W.heap.size := by obtain ⟨m, hm⟩ := k0; exact DataW.trod_lt m _ _ _ hm
  obtain ⟨b0, l0, c0, rfl⟩ := okWide_slice Try.underlying52 (hval 0 52 v0 rfl rfl)
  obtain ⟨a0, cap0, z0, e0, w0, s0⟩ := open_events (enc := enc) (w := W) (v := .slice b0 l0 c0) (fuel := h0.choose) (by simpa [Value.cells] using h0.choose_spec) (fun n hn => by simpa using List.all_eq_true.1 hsz n (DataW.weights_mem_each (j := 0) rfl rfl n hn))
  rw [e0] at hval k0 h0 hW' hval0 hA0
  have k1 := h1
  have lt1 : ∀ x ∈ p1, x.block < W.heap.size := by obtain ⟨m, hm⟩ := k1; exact DataW.trod_lt m _ _ _ hm
  obtain ⟨a1, rfl, rfl, rfl, w1⟩ := open_int Try.underlying3 (hval 1 3 v1 rfl rfl) h1
  clear hA0 hval0
  rw [e0]; refine (walk a0 cap0 z0 a1 W w0 s0 w1).mono fun e W' ⟨he, bel⟩ => ?_
  subst he
  exact ⟨_, rfl, _, _, _, [], _, [], hW', trodAll_mk1 (shut_bool Try.underlying4 _), (trodAll_cons_mk (Below.trod laidOut (by kernel_rfl) (of_decide_eq_true (by kernel_rfl)) k0 bel lt0) (trodAll_cons_mk (Below.trod laidOut (by kernel_rfl) (of_decide_eq_true (by kernel_rfl)) k1 bel lt1) trodAll_mk0)), rfl, bel.frame _, fun h => by cases h⟩

theorem over : Rows.pastCutRow.holds Try.pinned (OpenSpec.ofChange Rows.pastCutSpec) :=
  OpenClaim.holds_of_wide 5 Try.f5 rfl rfl rfl rfl rfl rfl rfl ⟨rfl, rfl, rfl, rfl, rfl⟩ rfl rfl rfl rfl rfl (by kernel_rfl) Try.func5 (by kernel_rfl)
    (of_decide_eq_true (by kernel_rfl)) (by unfold Func.isWrapper; first | (rw [if_pos (by decide +kernel)]; kernel_rfl) | (rw [if_neg (by decide +kernel)]; exact ⟨rfl, rfl⟩))
    (fun os started H enc _ => lifted os started H enc)

theorem pastCutHolds : Rows.PastCutSaid := over
#print axioms pastCutHolds
end Go.Proofs.Ytdhonompnbphlaa.pastCut
