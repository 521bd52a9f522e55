/- PastTurns (P18.1): of a history that may be and can be gone through, and of any thread: if it has begun a call that has not returned, then with the return of that call the history may be, with one call more of that thread it may not be, and with a return of another operation it may be just if that operation is the same; if it has not, then with one call more it may be, with a return it may not be, there is one call more, and it is not over. No condition. -/
import Derived.Test.YtdhonompnbphlaaRows
import Derived.Test.YtdhonompnbphlaaPaE
import Derived.Test.YtdhonompnbphlaaPaF
import Derived.LoopTactic
import Derived.WalkKit
import Derived.ProofKit
import Derived.OpenShut
import Derived.ChangeOld
import Derived.Below
namespace Go.Proofs.Ytdhonompnbphlaa.pastTurns
open Go.ChangeShapes Go.WideShapes Go.ChangeAt Go.RowKit
set_option linter.all false

theorem own : ownKnob Try.prog.godebug = none := by kernel_rfl
theorem laidOut : laidOutB Try.prog = true := by kernel_rfl

theorem wrapU64T (a : Int) : IntKind.u64.wrap a = a % 18446744073709551616 := by first | rfl | simp [IntKind.wrap]
/-- int(uint64(a) % uint64(d)). -/
theorem umodT (a d : Int) (h : 0 < d) (h2 : d ≤ 9223372036854775807) : ∃ m : Nat, (m : Int) < d ∧ wrap64 ((IntKind.u64.wrap a).tmod d) = m := by
  have h0 : 0 ≤ a % 18446744073709551616 := Int.emod_nonneg _ (by decide)
  have h1 := Int.emod_nonneg (a % 18446744073709551616) (show d ≠ 0 by omega)
  have h3 := Int.emod_lt_of_pos (a % 18446744073709551616) h
  refine ⟨((a % 18446744073709551616) % d).toNat, by omega, ?_⟩
  rw [wrapU64T, Int.tmod_eq_emod_of_nonneg h0]
  unfold wrap64
  omega

set_option maxRecDepth 100000 in
set_option maxHeartbeats 12800000 in
theorem walk (a0 : Option Addr) (cap0 : Nat) (z0 : List EvD) (o1 : OpD) (o2 : OpD) (a3 : Int) (w : World) (w0 : Es w a0 cap0 z0 ∧ (a0 = none → cap0 = 0)) (s0 : MidE z0) (w1 : o1.wf) (w2 : o2.wf) (w3 : (Lit.int .i64 a3).wf = true) :
    Calls Try.prog 6 #[.slice a0 z0.length cap0, .agg #[.int .i64 o1.c, .int .i64 o1.k, .int .i64 o1.h, .int .i64 o1.v], .agg #[.int .i64 o2.c, .int .i64 o2.k, .int .i64 o2.h, .int .i64 o2.v], .int .i64 a3] w fun e w' => e = .returned (.bool true) ∧ Below w.heap.size w w' := by
  obtain ⟨w0, wz⟩ := w0
  clear w1 w2 w3
  have hb0 : Below w.heap.size w ((w.alloc (.cells #[.int .i64 o1.c, .int .i64 o1.k, .int .i64 o1.h, .int .i64 o1.v] 28)).alloc (.cells #[.int .i64 o2.c, .int .i64 o2.k, .int .i64 o2.h, .int .i64 o2.v] 28)) := pb1 (pal _) _
  have HB0 := Lib.hid hb0
  have P1 := Lib.hid (Bq.past (Bq.new w #[.int .i64 o1.c, .int .i64 o1.k, .int .i64 o1.h, .int .i64 o1.v] 28) (.cells #[.int .i64 o2.c, .int .i64 o2.k, .int .i64 o2.h, .int .i64 o2.v] 28))
  have P2 := Lib.hid (show Bq ((w.alloc (.cells #[.int .i64 o1.c, .int .i64 o1.k, .int .i64 o1.h, .int .i64 o1.v] 28)).alloc (.cells #[.int .i64 o2.c, .int .i64 o2.k, .int .i64 o2.h, .int .i64 o2.v] 28)) (w.heap.size + 1) [.int .i64 o2.c, .int .i64 o2.k, .int .i64 o2.h, .int .i64 o2.v] from by
    have h := Bq.new (w.alloc (.cells #[.int .i64 o1.c, .int .i64 o1.k, .int .i64 o1.h, .int .i64 o1.v] 28)) #[.int .i64 o2.c, .int .i64 o2.k, .int .i64 o2.h, .int .i64 o2.v] 28
    simp only [World.size_alloc] at h; exact h)
  have hlg := fun W (hb : Below w.heap.size w W) => light_anyE a0 cap0 z0 W (w0.keep hb) s0
  have ca := fun W (hb : Below w.heap.size w W) => pawake_any W
  by_cases hL : LgtE z0
  rotate_left
  · have cl := hlg _ hb0 1 (fun h => absurd h hL) (fun _ => rfl)
    clear hlg hL hb0
    go_enter Try.func6, Try.ntmps6
    go_wp2_with (first
      | (go_at_call 18; ((with_reducible refine cl.mono ?_); clear cl; rintro e w1 ⟨rfl, hb1⟩; have HB1 := Lib.hid (pb2 HB0.out hb1); have HC1 := Lib.hid hb1; clear hb1))
      | (go_at_call 21; ((with_reducible refine (ca _ HB1.out).mono ?_); clear ca; rintro e wa ⟨rfl, hba⟩; have HBa := Lib.hid (pb2 HB1.out hba); clear hba))
      | fail)
    go_ret
    exact ⟨by simp, HBa.out⟩
  have cl := hlg _ hb0 0 (fun _ => rfl) (fun h => absurd hL h)
  have hN3 : z0.length ≤ 299 := Nat.le_trans hL.1 (by decide)
  have hnn : z0.length ≤ 200 := hL.1
  have hps : ∀ e ∈ z0, e.a.ps.length ≤ 1100000 := fun e he => Nat.le_trans (hL.ps e he) (by decide)
  have cm0 := fun W (hb : Below w.heap.size w W) => may_anyP a0 cap0 z0 W (w0.keep hb) (Nat.le_succ_of_le hN3)
  have cc0 := fun W (hb : Below w.heap.size w W) => calls_any a0 cap0 z0 W (w0.keep hb) (Nat.le_succ_of_le hN3) hps
  have HW := Lib.hid w0
  have HWZ := Lib.hid wz
  have HPS := Lib.hid hps
  have hz1 := w0.1
  have hz2 := w0.2.1
  unfold maxLen at hz2
  clear hlg hL w0 s0 hps wz
  cases hm : mtch z0 with
  | none =>
    have cm := fun W hb => cm0 W hb false (by rw [hm]; rfl)
    clear cm0 cc0 hm hb0
    go_enter Try.func6, Try.ntmps6
    go_wp2_with (first
      | (go_at_call 18; ((with_reducible refine cl.mono ?_); clear cl; rintro e w1 ⟨rfl, hb1⟩; have HB1 := Lib.hid (pb2 HB0.out hb1); have HC1 := Lib.hid hb1; clear hb1))
      | (go_at_call 19; ((with_reducible refine (cm _ HB1.out).mono ?_); clear cm; rintro e w2 ⟨rfl, hb2⟩; have HB2 := Lib.hid (pb2 HB1.out hb2); have HC2 := Lib.hid (pb2 HC1.out hb2); clear hb2))
      | (go_at_call 21; ((with_reducible refine (ca _ HB2.out).mono ?_); clear ca; rintro e wa ⟨rfl, hba⟩; have HBa := Lib.hid (pb2 HB2.out hba); clear hba))
      | fail)
    go_ret
    exact ⟨by simp, HBa.out⟩
  | some s1 =>
  have cm := fun W hb => cm0 W hb true (by rw [hm]; rfl)
  clear cm0
  by_cases hk1 : okOp o1.c
  rotate_left
  · have cp := fun W (hb : Below w.heap.size w W) => rmayop_any o1.c o1.k o1.h o1.v W false (decide_eq_false hk1)
    clear cc0 hm hk1 hb0
    go_enter Try.func6, Try.ntmps6
    go_wp2_with (first
      | (go_at_call 18; ((with_reducible refine cl.mono ?_); clear cl; rintro e w1 ⟨rfl, hb1⟩; have HB1 := Lib.hid (pb2 HB0.out hb1); have HC1 := Lib.hid hb1; clear hb1))
      | (go_at_call 19; ((with_reducible refine (cm _ HB1.out).mono ?_); clear cm; rintro e w2 ⟨rfl, hb2⟩; have HB2 := Lib.hid (pb2 HB1.out hb2); have HC2 := Lib.hid (pb2 HC1.out hb2); clear hb2; have p0 := (P1.out.keep HC2.out).at_ 0 _ rfl; have p1 := (P1.out.keep HC2.out).at_ 1 _ rfl; have p2 := (P1.out.keep HC2.out).at_ 2 _ rfl; have p3 := (P1.out.keep HC2.out).at_ 3 _ rfl))
      | (go_at_call 11; ((with_reducible refine (cp _ HB2.out).mono ?_); clear cp; rintro e w3 ⟨rfl, hb3⟩; have HB3 := Lib.hid (pb2 HB2.out hb3); have HC3 := Lib.hid (pb2 HC2.out hb3); clear hb3; clear p0 p1 p2 p3))
      | (go_at_call 21; ((with_reducible refine (ca _ HB3.out).mono ?_); clear ca; rintro e wa ⟨rfl, hba⟩; have HBa := Lib.hid (pb2 HB3.out hba); clear hba))
      | fail)
    go_ret
    exact ⟨by simp, HBa.out⟩
  have cp := fun W (hb : Below w.heap.size w W) => rmayop_any o1.c o1.k o1.h o1.v W true (decide_eq_true hk1)
  by_cases hk2 : okOp o2.c
  rotate_left
  · have cq := fun W (hb : Below w.heap.size w W) => rmayop_any o2.c o2.k o2.h o2.v W false (decide_eq_false hk2)
    clear cc0 hm hk1 hk2 hb0
    go_enter Try.func6, Try.ntmps6
    go_wp2_with (first
      | (go_at_call 18; ((with_reducible refine cl.mono ?_); clear cl; rintro e w1 ⟨rfl, hb1⟩; have HB1 := Lib.hid (pb2 HB0.out hb1); have HC1 := Lib.hid hb1; clear hb1))
      | (go_at_call 19; ((with_reducible refine (cm _ HB1.out).mono ?_); clear cm; rintro e w2 ⟨rfl, hb2⟩; have HB2 := Lib.hid (pb2 HB1.out hb2); have HC2 := Lib.hid (pb2 HC1.out hb2); clear hb2; have p0 := (P1.out.keep HC2.out).at_ 0 _ rfl; have p1 := (P1.out.keep HC2.out).at_ 1 _ rfl; have p2 := (P1.out.keep HC2.out).at_ 2 _ rfl; have p3 := (P1.out.keep HC2.out).at_ 3 _ rfl))
      | (go_at_call 11; ((with_reducible refine (cp _ HB2.out).mono ?_); clear cp; rintro e w3 ⟨rfl, hb3⟩; have HB3 := Lib.hid (pb2 HB2.out hb3); have HC3 := Lib.hid (pb2 HC2.out hb3); clear hb3; clear p0 p1 p2 p3; have r0 := (P2.out.keep HC3.out).at_ 0 _ rfl; have r1 := (P2.out.keep HC3.out).at_ 1 _ rfl; have r2 := (P2.out.keep HC3.out).at_ 2 _ rfl; have r3 := (P2.out.keep HC3.out).at_ 3 _ rfl))
      | (go_at_call 11; ((with_reducible refine (cq _ HB3.out).mono ?_); clear cq; rintro e w4 ⟨rfl, hb4⟩; have HB4 := Lib.hid (pb2 HB3.out hb4); have HC4 := Lib.hid (pb2 HC3.out hb4); clear hb4; clear r0 r1 r2 r3))
      | (go_at_call 21; ((with_reducible refine (ca _ HB4.out).mono ?_); clear ca; rintro e wa ⟨rfl, hba⟩; have HBa := Lib.hid (pb2 HB4.out hba); clear hba))
      | fail)
    go_ret
    exact ⟨by simp, HBa.out⟩
  have cq := fun W (hb : Below w.heap.size w W) => rmayop_any o2.c o2.k o2.h o2.v W true (decide_eq_true hk2)
  obtain ⟨tn, htn, hum⟩ := umodT a3 6 (by omega) (by omega)
  have ht6 : tn < 6 := by omega
  have hI := minv z0 _ s1 hm
  have hon := hI.on (t := (tn : Int)) (okT_nat ht6)
  have HM := Lib.hid hm
  have HI := Lib.hid hI
  have HK1 := Lib.hid hk1
  have HK2 := Lib.hid hk2
  have HON := Lib.hid hon
  clear hm hI hk1 hk2 hb0 hon htn
  go_enter Try.func6, Try.ntmps6
  go_wp2_with (first
    | (go_at_call 18; ((with_reducible refine cl.mono ?_); clear cl; rintro e w1 ⟨rfl, hb1⟩; have HB1 := Lib.hid (pb2 HB0.out hb1); have HC1 := Lib.hid hb1; clear hb1))
    | (go_at_call 19; ((with_reducible refine (cm _ HB1.out).mono ?_); clear cm; rintro e w2 ⟨rfl, hb2⟩; have HB2 := Lib.hid (pb2 HB1.out hb2); have HC2 := Lib.hid (pb2 HC1.out hb2); clear hb2; have p0 := (P1.out.keep HC2.out).at_ 0 _ rfl; have p1 := (P1.out.keep HC2.out).at_ 1 _ rfl; have p2 := (P1.out.keep HC2.out).at_ 2 _ rfl; have p3 := (P1.out.keep HC2.out).at_ 3 _ rfl))
    | (go_at_call 11; ((with_reducible refine (cp _ HB2.out).mono ?_); clear cp; rintro e w3 ⟨rfl, hb3⟩; have HB3 := Lib.hid (pb2 HB2.out hb3); have HC3 := Lib.hid (pb2 HC2.out hb3); clear hb3; clear p0 p1 p2 p3; have r0 := (P2.out.keep HC3.out).at_ 0 _ rfl; have r1 := (P2.out.keep HC3.out).at_ 1 _ rfl; have r2 := (P2.out.keep HC3.out).at_ 2 _ rfl; have r3 := (P2.out.keep HC3.out).at_ 3 _ rfl))
    | (go_at_call 11; ((with_reducible refine (cq _ HB3.out).mono ?_); clear cq; rintro e w4 ⟨rfl, hb4⟩; have HB4 := Lib.hid (pb2 HB3.out hb4); have HC4 := Lib.hid (pb2 HC3.out hb4); clear hb4; clear r0 r1 r2 r3))
    | fail)
  rw [hum]
  clear hum
  go_loopw [41, 9] (fun i x wr => ∃ n : Nat, n ≤ z0.length ∧ i = .int .i64 n ∧ x = .int .i64 (onn z0 (tn : Int) n) ∧ Below w4.heap.size w4 wr) (fun i _ _ => z0.length - (intOf i).toNat)
  case atStart => exact ⟨0, Nat.zero_le _, rfl, rfl, Below.refl _ _⟩
  case round =>
    obtain ⟨n, hn, rfl, rfl, hb⟩ := hrel
    have HBR := Lib.hid hb
    by_cases hlt : n < z0.length
    · obtain ⟨x, hx⟩ : ∃ x, z0[n]? = some x := ⟨_, List.getElem?_eq_getElem hlt⟩
      obtain ⟨b, o, pa, pc, rfl, hx1⟩ := (HW.out.keep (pb2 HB4.out hb)).2.2 n x hx
      have hn0 : (0 : Int) ≤ (n : Int) := Int.natCast_nonneg n
      have hnl : (n : Int) < (z0.length : Int) := Int.ofNat_lt.2 hlt
      obtain ⟨e0, e1, e2, e3, e4, e5, e6, e7, e8, e9, e10, e11⟩ := hx1.ex
      have hgx : z0.getD n zEv = x := by rw [List.getD_eq_getElem?_getD, hx]; rfl
      obtain ⟨t, r, ⟨oc, ok, oh, ov⟩, ⟨ae, ao, ak, av, an, ap⟩⟩ := x
      dsimp only at e0 e1 e2 e3 e4 e5 e6 e7 e8 e9 e10 e11
      clear hx hb hx1
      by_cases hte : t = (tn : Int)
      · subst hte
        cases r
        · have hO : onn z0 (tn : Int) (n + 1) = (n : Int) := by simp only [onn, hgx]; simp
          clear hgx
          go_wp2_with (fail)
          go_roundw
          case rel => exact ⟨n + 1, by omega, by go_num, by rw [hO], pb2 HBR.out (pal _)⟩
          case measure => simp [intOf]; omega
        · have hO : onn z0 (tn : Int) (n + 1) = -1 := by simp only [onn, hgx]; simp
          clear hgx
          go_wp2_with (fail)
          go_roundw
          case rel => exact ⟨n + 1, by omega, by go_num, by rw [hO], pb2 HBR.out (pal _)⟩
          case measure => simp [intOf]; omega
      · have hO : onn z0 (tn : Int) (n + 1) = onn z0 (tn : Int) n := by simp only [onn, hgx]; rw [if_neg hte]
        have hq : (t == (tn : Int)) = false := by simpa using hte
        clear hgx hte
        generalize onn z0 (tn : Int) n = on0 at hO ⊢
        go_wp2_with (fail)
        go_roundw
        case rel => exact ⟨n + 1, by omega, by go_num, by rw [hO], pb2 HBR.out (pal _)⟩
        case measure => simp [intOf]; omega
    · obtain rfl : n = z0.length := by omega
      clear hb hn
      have HBZ := Lib.hid (pb2 HB4.out HBR.out)
      have P1Z := Lib.hid ((P1.out.keep HC4.out).keep HBR.out)
      have P2Z := Lib.hid ((P2.out.keep HC4.out).keep HBR.out)
      clear HBR HC4
      obtain ⟨Mh, hMe, hMl, hsrc, hpm⟩ := src_evs HW.out HWZ.out
      have HMM := Lib.hid hMe
      have HSRC := Lib.hid hsrc
      have HPM0 := Lib.hid hpm
      have HL1 := Lib.hid (show ([] : List RE).length + Mh.length ≤ 100000 by simp; omega)
      have HL2 := Lib.hid (show ([] : List RE).length + Mh.length = z0.length by simp [hMl])
      have HL3 := Lib.hid (show Mh.length + 1 ≤ 100000 by omega)
      have HL4 := Lib.hid (show Mh.length + 1 = z0.length + 1 by omega)
      clear hMe hsrc hpm hMl
      go_wp2_with (fail)
      have HPM := Lib.hid (show ∀ m ∈ Mh, Prs wr m.a m.c m.e.a.ps from fun m hm => (HPM0.out m hm).below HBZ.out)
      have HSR := Lib.hid (show ∀ W, Below wr.heap.size wr W → Source W (.slice a0 z0.length cap0) Mh.length (cellsE Mh) from fun W hb => src_keep HSRC.out (pb2 HBZ.out hb))
      have p0 := P1Z.out.at_ 0 _ rfl
      have p1 := P1Z.out.at_ 1 _ rfl
      have p2 := P1Z.out.at_ 2 _ rfl
      have p3 := P1Z.out.at_ 3 _ rfl
      go_cut [12] from 54 to 61 (fun v wx => ∃ (ao : Option Addr) (lc : Nat), v = .slice ao (z0.length + 1) lc ∧ Es wx ao lc (z0 ++ [⟨(tn : Int), false, o1, zAd⟩]) ∧ Below wr.heap.size wr wx)
      case first =>
        refine wp_region_held_drew (S := fun W => W.cell? ⟨w.heap.size, 0, none⟩ = some (.int .i64 o1.c) ∧ W.cell? ⟨w.heap.size, 1, none⟩ = some (.int .i64 o1.k) ∧ W.cell? ⟨w.heap.size, 2, none⟩ = some (.int .i64 o1.h) ∧ W.cell? ⟨w.heap.size, 3, none⟩ = some (.int .i64 o1.v) ∧ Below wr.heap.size wr W) (by kernel_rfl) (by first | exact ⟨p0, p1, p2, p3, Below.refl _ _⟩ | exact ⟨p0, p1, p2, p3, (Below.refl _ _).drew⟩) (fun hHeld => ?_)
        have HD := Lib.hid hHeld.2.2.2.2
        generalize (World.drew wr : World) = Wd at hHeld HD ⊢
        refine wpAnyH_take (i := 1) (v := ?_) rfl (by kernel_rfl) (by kernel_rfl) (by kernel_rfl) (fun _ _ _ h => h) (Or.inl ⟨by rfl, ?_⟩) hHeld ?_
        rotate_left
        · (intro wS hSw; (try dsimp only at hSw); (try go_split_ands); go_simp; try with_reducible rfl)
        try simp only [List.getElem_toArray, List.getElem_cons_succ, List.getElem_cons_zero, Act.put, List.setIfInBounds_toArray, List.set_cons_zero, List.set_cons_succ]
        refine wpAnyH_take (i := 3) (v := ?_) rfl (by kernel_rfl) (by kernel_rfl) (by kernel_rfl) (fun _ _ _ h => h) (Or.inl ⟨by rfl, ?_⟩) hHeld ?_
        rotate_left
        · (intro wS hSw; (try dsimp only at hSw); (try go_split_ands); go_simp; try with_reducible rfl)
        try simp only [List.getElem_toArray, List.getElem_cons_succ, List.getElem_cons_zero, Act.put, List.setIfInBounds_toArray, List.set_cons_zero, List.set_cons_succ]
        refine wpAnyH_take (i := 4) (v := ?_) rfl (by kernel_rfl) (by kernel_rfl) (by kernel_rfl) (fun _ _ _ h => h) (Or.inl ⟨by rfl, ?_⟩) hHeld ?_
        rotate_left
        · (intro wS hSw; (try dsimp only at hSw); (try go_split_ands); go_simp; try with_reducible rfl)
        try simp only [List.getElem_toArray, List.getElem_cons_succ, List.getElem_cons_zero, Act.put, List.setIfInBounds_toArray, List.set_cons_zero, List.set_cons_succ]
        refine wpAnyH_take (i := 5) (v := ?_) rfl (by kernel_rfl) (by kernel_rfl) (by kernel_rfl) (fun _ _ _ h => h) (Or.inl ⟨by rfl, ?_⟩) hHeld ?_
        rotate_left
        · (intro wS hSw; (try dsimp only at hSw); (try go_split_ands); go_simp; try with_reducible rfl)
        try simp only [List.getElem_toArray, List.getElem_cons_succ, List.getElem_cons_zero, Act.put, List.setIfInBounds_toArray, List.set_cons_zero, List.set_cons_succ]
        refine wpAnyH_ready (rs := [0, 6]) (by kernel_rfl) (by simp) ?_
        refine AllReadyH.cons rfl (fun K hK => ?_) (AllReadyH.cons rfl (fun K hK => ?_) AllReadyH.nil)
        · go_simp
          refine hK.out _ _ ?_ (fun hNext => ?_)
          · exact ⟨pkc (pb2 HD.out (pal _)) p0, pkc (pb2 HD.out (pal _)) p1, pkc (pb2 HD.out (pal _)) p2, pkc (pb2 HD.out (pal _)) p3, (pb2 HD.out (pal _))⟩
          clear hK K hHeld
          have hHeld := hNext
          clear hNext
          try simp only [List.getElem_toArray, List.getElem_cons_succ, List.getElem_cons_zero, Act.put, List.setIfInBounds_toArray, List.set_cons_zero, List.set_cons_succ]
          have T0 := Lib.hid (TW.a0 HD.out)
          replace HD := Lib.hid (pb2 HD.out (pal (.cells #[] 62)))
          have hgl : Wd.heap.size < (Wd.alloc (.cells #[] 62)).heap.size := by simp
          generalize Wd.alloc (.cells #[] 62) = Wa at *
          generalize Wd.heap.size = g0 at *
          refine wpAnyH_ready (rs := [2, 6]) (by kernel_rfl) (by simp) ?_
          refine AllReadyH.cons rfl (fun K hK => ?_) (AllReadyH.cons rfl (fun K hK => ?_) AllReadyH.nil)
          · refine step_tw rfl (.tmp 54) (.tmp 55) rfl wr (.slice (some ⟨g0, 0, none⟩) 0 0) [] Mh rfl T0.out HPM.out _ rfl (HSR.out _ HD.out) HL1.out z0.length HL2.out ?_
            intro ao1 lc1 Wb hm1 hc1 hT1 hO1 hK1
            have T1 := Lib.hid hT1
            clear hT1 hO1 hK1
            refine hK.out _ _ ?_ (fun hNext => ?_)
            · exact ⟨pkc T1.out.be p0, pkc T1.out.be p1, pkc T1.out.be p2, pkc T1.out.be p3, T1.out.be⟩
            clear hK K hHeld
            have hHeld := hNext
            clear hNext
            try simp only [List.getElem_toArray, List.getElem_cons_succ, List.getElem_cons_zero, Act.put, List.setIfInBounds_toArray, List.set_cons_zero, List.set_cons_succ]
            refine wpAnyH_ready (rs := [6]) (by kernel_rfl) (by simp) ?_
            refine AllReadyH.cons rfl (fun K hK => ?_) AllReadyH.nil
            go_simp
            refine hK.out _ _ ?_ (fun hNext => ?_)
            · exact ⟨pkc (pb2 T1.out.be (pal _)) p0, pkc (pb2 T1.out.be (pal _)) p1, pkc (pb2 T1.out.be (pal _)) p2, pkc (pb2 T1.out.be (pal _)) p3, (pb2 T1.out.be (pal _))⟩
            clear hK K hHeld
            have hHeld := hNext
            clear hNext
            try simp only [List.getElem_toArray, List.getElem_cons_succ, List.getElem_cons_zero, Act.put, List.setIfInBounds_toArray, List.set_cons_zero, List.set_cons_succ]
            have B6 := Lib.hid (Bq.new Wb #[.int .i64 (tn : Int), .bool false, .int .i64 o1.c, .int .i64 o1.k, .int .i64 o1.h, .int .i64 o1.v, .int .i64 0, .bool false, .int .i64 0, .int .i64 0, .int .i64 0, .slice none 0 0] 62)
            replace T1 := Lib.hid (T1.out.keep (pal (.cells #[.int .i64 (tn : Int), .bool false, .int .i64 o1.c, .int .i64 o1.k, .int .i64 o1.h, .int .i64 o1.v, .int .i64 0, .bool false, .int .i64 0, .int .i64 0, .int .i64 0, .slice none 0 0] 62)))
            generalize Wb.alloc (.cells #[.int .i64 (tn : Int), .bool false, .int .i64 o1.c, .int .i64 o1.k, .int .i64 o1.h, .int .i64 o1.v, .int .i64 0, .bool false, .int .i64 0, .int .i64 0, .int .i64 0, .slice none 0 0] 62) = Wc at *
            generalize Wb.heap.size = g6 at *
            refine wpAnyH_ready (rs := [7]) (by kernel_rfl) (by simp) ?_
            refine AllReadyH.cons rfl (fun K hK => ?_) AllReadyH.nil
            refine step_tw rfl (.tmp 56) (.tmp 60) rfl wr (.slice ao1 z0.length lc1) Mh [⟨⟨(tn : Int), false, o1, zAd⟩, none, 0⟩] rfl T1.out (fun m hm => by rw [List.mem_singleton.1 hm]; exact Prs.nil _) _ rfl (src_ev B6.out) HL3.out (z0.length + 1) HL4.out ?_
            intro ao2 lc2 We hm2 hc2 hT2 hO2 hK2
            have T2 := Lib.hid hT2
            clear hT2 hO2 hK2
            refine hK.out _ _ ?_ (fun hNext => ?_)
            · exact ⟨pkc T2.out.be p0, pkc T2.out.be p1, pkc T2.out.be p2, pkc T2.out.be p3, T2.out.be⟩
            clear hK K hHeld
            have hHeld := hNext
            clear hNext
            try simp only [List.getElem_toArray, List.getElem_cons_succ, List.getElem_cons_zero, Act.put, List.setIfInBounds_toArray, List.set_cons_zero, List.set_cons_succ]
            refine wpAnyH_take (i := 8) (v := ?_) rfl (by kernel_rfl) (by kernel_rfl) (by kernel_rfl) (fun _ _ _ h => h) (Or.inl ⟨by rfl, ?_⟩) hHeld ?_
            rotate_left
            · (intro wS hSw; (try dsimp only at hSw); (try go_split_ands); go_simp; try with_reducible rfl)
            try simp only [List.getElem_toArray, List.getElem_cons_succ, List.getElem_cons_zero, Act.put, List.setIfInBounds_toArray, List.set_cons_zero, List.set_cons_succ]
            refine wpAnyH_done (by kernel_rfl) ?_ _
            clear hHeld
            go_wp2_with (fail)
            go_meet
            exact ⟨ao2, lc2, rfl, by have h := T2.out.es.2; rw [List.map_append, HMM.out] at h; exact h, T2.out.be⟩
          · go_simp
            refine hK.out _ _ ?_ (fun hNext => ?_)
            · exact ⟨pkc (pb2 HD.out (pal _)) p0, pkc (pb2 HD.out (pal _)) p1, pkc (pb2 HD.out (pal _)) p2, pkc (pb2 HD.out (pal _)) p3, (pb2 HD.out (pal _))⟩
            clear hK K hHeld
            have hHeld := hNext
            clear hNext
            try simp only [List.getElem_toArray, List.getElem_cons_succ, List.getElem_cons_zero, Act.put, List.setIfInBounds_toArray, List.set_cons_zero, List.set_cons_succ]
            have B6 := Lib.hid (Bq.new Wa #[.int .i64 (tn : Int), .bool false, .int .i64 o1.c, .int .i64 o1.k, .int .i64 o1.h, .int .i64 o1.v, .int .i64 0, .bool false, .int .i64 0, .int .i64 0, .int .i64 0, .slice none 0 0] 62)
            have hne2 : ¬ g0 = Wa.heap.size := by omega
            replace T0 := Lib.hid (T0.out.keep (pal (.cells #[.int .i64 (tn : Int), .bool false, .int .i64 o1.c, .int .i64 o1.k, .int .i64 o1.h, .int .i64 o1.v, .int .i64 0, .bool false, .int .i64 0, .int .i64 0, .int .i64 0, .slice none 0 0] 62)))
            replace HD := Lib.hid (pb2 HD.out (pal (.cells #[.int .i64 (tn : Int), .bool false, .int .i64 o1.c, .int .i64 o1.k, .int .i64 o1.h, .int .i64 o1.v, .int .i64 0, .bool false, .int .i64 0, .int .i64 0, .int .i64 0, .slice none 0 0] 62)))
            generalize Wa.alloc (.cells #[.int .i64 (tn : Int), .bool false, .int .i64 o1.c, .int .i64 o1.k, .int .i64 o1.h, .int .i64 o1.v, .int .i64 0, .bool false, .int .i64 0, .int .i64 0, .int .i64 0, .slice none 0 0] 62) = Wb at *
            generalize Wa.heap.size = g6 at *
            refine wpAnyH_ready (rs := [2]) (by kernel_rfl) (by simp) ?_
            refine AllReadyH.cons rfl (fun K hK => ?_) AllReadyH.nil
            refine step_tw rfl (.tmp 54) (.tmp 55) rfl wr (.slice (some ⟨g0, 0, none⟩) 0 0) [] Mh rfl T0.out HPM.out _ rfl (HSR.out _ HD.out) HL1.out z0.length HL2.out ?_
            intro ao1 lc1 Wc hm1 hc1 hT1 hO1 hK1
            have T1 := Lib.hid hT1
            replace B6 := Lib.hid (B6.out.only hO1 (fun x => hne2 (by simpa [Value.ownBlock] using x)))
            clear hT1 hO1 hK1
            refine hK.out _ _ ?_ (fun hNext => ?_)
            · exact ⟨pkc T1.out.be p0, pkc T1.out.be p1, pkc T1.out.be p2, pkc T1.out.be p3, T1.out.be⟩
            clear hK K hHeld
            have hHeld := hNext
            clear hNext
            try simp only [List.getElem_toArray, List.getElem_cons_succ, List.getElem_cons_zero, Act.put, List.setIfInBounds_toArray, List.set_cons_zero, List.set_cons_succ]
            refine wpAnyH_ready (rs := [7]) (by kernel_rfl) (by simp) ?_
            refine AllReadyH.cons rfl (fun K hK => ?_) AllReadyH.nil
            refine step_tw rfl (.tmp 56) (.tmp 60) rfl wr (.slice ao1 z0.length lc1) Mh [⟨⟨(tn : Int), false, o1, zAd⟩, none, 0⟩] rfl T1.out (fun m hm => by rw [List.mem_singleton.1 hm]; exact Prs.nil _) _ rfl (src_ev B6.out) HL3.out (z0.length + 1) HL4.out ?_
            intro ao2 lc2 We hm2 hc2 hT2 hO2 hK2
            have T2 := Lib.hid hT2
            clear hT2 hO2 hK2
            refine hK.out _ _ ?_ (fun hNext => ?_)
            · exact ⟨pkc T2.out.be p0, pkc T2.out.be p1, pkc T2.out.be p2, pkc T2.out.be p3, T2.out.be⟩
            clear hK K hHeld
            have hHeld := hNext
            clear hNext
            try simp only [List.getElem_toArray, List.getElem_cons_succ, List.getElem_cons_zero, Act.put, List.setIfInBounds_toArray, List.set_cons_zero, List.set_cons_succ]
            refine wpAnyH_take (i := 8) (v := ?_) rfl (by kernel_rfl) (by kernel_rfl) (by kernel_rfl) (fun _ _ _ h => h) (Or.inl ⟨by rfl, ?_⟩) hHeld ?_
            rotate_left
            · (intro wS hSw; (try dsimp only at hSw); (try go_split_ands); go_simp; try with_reducible rfl)
            try simp only [List.getElem_toArray, List.getElem_cons_succ, List.getElem_cons_zero, Act.put, List.setIfInBounds_toArray, List.set_cons_zero, List.set_cons_succ]
            refine wpAnyH_done (by kernel_rfl) ?_ _
            clear hHeld
            go_wp2_with (fail)
            go_meet
            exact ⟨ao2, lc2, rfl, by have h := T2.out.es.2; rw [List.map_append, HMM.out] at h; exact h, T2.out.be⟩
        · go_simp
          refine hK.out _ _ ?_ (fun hNext => ?_)
          · exact ⟨pkc (pb2 HD.out (pal _)) p0, pkc (pb2 HD.out (pal _)) p1, pkc (pb2 HD.out (pal _)) p2, pkc (pb2 HD.out (pal _)) p3, (pb2 HD.out (pal _))⟩
          clear hK K hHeld
          have hHeld := hNext
          clear hNext
          try simp only [List.getElem_toArray, List.getElem_cons_succ, List.getElem_cons_zero, Act.put, List.setIfInBounds_toArray, List.set_cons_zero, List.set_cons_succ]
          have B6 := Lib.hid (Bq.new Wd #[.int .i64 (tn : Int), .bool false, .int .i64 o1.c, .int .i64 o1.k, .int .i64 o1.h, .int .i64 o1.v, .int .i64 0, .bool false, .int .i64 0, .int .i64 0, .int .i64 0, .slice none 0 0] 62)
          replace HD := Lib.hid (pb2 HD.out (pal (.cells #[.int .i64 (tn : Int), .bool false, .int .i64 o1.c, .int .i64 o1.k, .int .i64 o1.h, .int .i64 o1.v, .int .i64 0, .bool false, .int .i64 0, .int .i64 0, .int .i64 0, .slice none 0 0] 62)))
          generalize Wd.alloc (.cells #[.int .i64 (tn : Int), .bool false, .int .i64 o1.c, .int .i64 o1.k, .int .i64 o1.h, .int .i64 o1.v, .int .i64 0, .bool false, .int .i64 0, .int .i64 0, .int .i64 0, .slice none 0 0] 62) = Wa at *
          generalize Wd.heap.size = g6 at *
          refine wpAnyH_ready (rs := [0]) (by kernel_rfl) (by simp) ?_
          refine AllReadyH.cons rfl (fun K hK => ?_) AllReadyH.nil
          go_simp
          refine hK.out _ _ ?_ (fun hNext => ?_)
          · exact ⟨pkc (pb2 HD.out (pal _)) p0, pkc (pb2 HD.out (pal _)) p1, pkc (pb2 HD.out (pal _)) p2, pkc (pb2 HD.out (pal _)) p3, (pb2 HD.out (pal _))⟩
          clear hK K hHeld
          have hHeld := hNext
          clear hNext
          try simp only [List.getElem_toArray, List.getElem_cons_succ, List.getElem_cons_zero, Act.put, List.setIfInBounds_toArray, List.set_cons_zero, List.set_cons_succ]
          have T0 := Lib.hid (TW.a0 HD.out)
          have hne := B6.out.lt
          have hne2 : ¬ Wa.heap.size = g6 := by omega
          clear hne
          replace B6 := Lib.hid (B6.out.keep (pal (.cells #[] 62)))
          replace HD := Lib.hid (pb2 HD.out (pal (.cells #[] 62)))
          have hgl : Wa.heap.size < (Wa.alloc (.cells #[] 62)).heap.size := by simp
          generalize Wa.alloc (.cells #[] 62) = Wb at *
          generalize Wa.heap.size = g0 at *
          refine wpAnyH_ready (rs := [2]) (by kernel_rfl) (by simp) ?_
          refine AllReadyH.cons rfl (fun K hK => ?_) AllReadyH.nil
          refine step_tw rfl (.tmp 54) (.tmp 55) rfl wr (.slice (some ⟨g0, 0, none⟩) 0 0) [] Mh rfl T0.out HPM.out _ rfl (HSR.out _ HD.out) HL1.out z0.length HL2.out ?_
          intro ao1 lc1 Wc hm1 hc1 hT1 hO1 hK1
          have T1 := Lib.hid hT1
          replace B6 := Lib.hid (B6.out.only hO1 (fun x => hne2 (by simpa [Value.ownBlock] using x)))
          clear hT1 hO1 hK1
          refine hK.out _ _ ?_ (fun hNext => ?_)
          · exact ⟨pkc T1.out.be p0, pkc T1.out.be p1, pkc T1.out.be p2, pkc T1.out.be p3, T1.out.be⟩
          clear hK K hHeld
          have hHeld := hNext
          clear hNext
          try simp only [List.getElem_toArray, List.getElem_cons_succ, List.getElem_cons_zero, Act.put, List.setIfInBounds_toArray, List.set_cons_zero, List.set_cons_succ]
          refine wpAnyH_ready (rs := [7]) (by kernel_rfl) (by simp) ?_
          refine AllReadyH.cons rfl (fun K hK => ?_) AllReadyH.nil
          refine step_tw rfl (.tmp 56) (.tmp 60) rfl wr (.slice ao1 z0.length lc1) Mh [⟨⟨(tn : Int), false, o1, zAd⟩, none, 0⟩] rfl T1.out (fun m hm => by rw [List.mem_singleton.1 hm]; exact Prs.nil _) _ rfl (src_ev B6.out) HL3.out (z0.length + 1) HL4.out ?_
          intro ao2 lc2 We hm2 hc2 hT2 hO2 hK2
          have T2 := Lib.hid hT2
          clear hT2 hO2 hK2
          refine hK.out _ _ ?_ (fun hNext => ?_)
          · exact ⟨pkc T2.out.be p0, pkc T2.out.be p1, pkc T2.out.be p2, pkc T2.out.be p3, T2.out.be⟩
          clear hK K hHeld
          have hHeld := hNext
          clear hNext
          try simp only [List.getElem_toArray, List.getElem_cons_succ, List.getElem_cons_zero, Act.put, List.setIfInBounds_toArray, List.set_cons_zero, List.set_cons_succ]
          refine wpAnyH_take (i := 8) (v := ?_) rfl (by kernel_rfl) (by kernel_rfl) (by kernel_rfl) (fun _ _ _ h => h) (Or.inl ⟨by rfl, ?_⟩) hHeld ?_
          rotate_left
          · (intro wS hSw; (try dsimp only at hSw); (try go_split_ands); go_simp; try with_reducible rfl)
          try simp only [List.getElem_toArray, List.getElem_cons_succ, List.getElem_cons_zero, Act.put, List.setIfInBounds_toArray, List.set_cons_zero, List.set_cons_succ]
          refine wpAnyH_done (by kernel_rfl) ?_ _
          clear hHeld
          go_wp2_with (fail)
          go_meet
          exact ⟨ao2, lc2, rfl, by have h := T2.out.es.2; rw [List.map_append, HMM.out] at h; exact h, T2.out.be⟩
      case rest =>
        obtain ⟨ao1, lc1, rfl, hE1, hB1⟩ := hcut
        have HBC := Lib.hid (pb2 HBZ.out hB1)
        have P1C := Lib.hid (P1Z.out.keep hB1)
        have P2C := Lib.hid (P2Z.out.keep hB1)
        have HE1 := Lib.hid hE1
        clear hE1 hB1 P1Z P2Z HBZ p0 p1 p2 p3 HPM HSR
        have hNe : ∀ e : EvD, (z0 ++ [e]).length = z0.length + 1 := fun e => by rw [List.length_append, List.length_singleton]
        have hl1 : s1.l.length ≤ 200 := by rw [HI.out.nb]; exact Nat.le_trans (cnt_le z0 _).1 hnn
        rcases HON.out with ⟨hx0, ho⟩ | ⟨p, hx0, ho, hpn, hop⟩
        · rw [ho]
          have hR := snoc_ret HM.out (t := (tn : Int)) (o := o1) (a := zAd) (okT_nat ht6)
          rw [if_neg (by omega)] at hR
          have hC := snoc_call HM.out (t := (tn : Int)) (okT_nat ht6) HK1.out
          rw [if_pos hx0] at hC
          have HR := Lib.hid hR
          have HCC := Lib.hid hC
          clear hR hC hx0 ho
          go_wp2_with (fail)
          have HPM := Lib.hid (show ∀ m ∈ Mh, Prs wc m.a m.c m.e.a.ps from fun m hm => (HPM0.out m hm).below HBC.out)
          have HSR := Lib.hid (show ∀ W, Below wc.heap.size wc W → Source W (.slice a0 z0.length cap0) Mh.length (cellsE Mh) from fun W hb => src_keep HSRC.out (pb2 HBC.out hb))
          have p0 := P1C.out.at_ 0 _ rfl
          have p1 := P1C.out.at_ 1 _ rfl
          have p2 := P1C.out.at_ 2 _ rfl
          have p3 := P1C.out.at_ 3 _ rfl
          go_cut [15] from 106 to 113 (fun v wx => ∃ (ao : Option Addr) (lc : Nat), v = .slice ao (z0.length + 1) lc ∧ Es wx ao lc (z0 ++ [⟨(tn : Int), true, o1, zAd⟩]) ∧ Below wc.heap.size wc wx)
          case first =>
            refine wp_region_held_drew (S := fun W => W.cell? ⟨w.heap.size, 0, none⟩ = some (.int .i64 o1.c) ∧ W.cell? ⟨w.heap.size, 1, none⟩ = some (.int .i64 o1.k) ∧ W.cell? ⟨w.heap.size, 2, none⟩ = some (.int .i64 o1.h) ∧ W.cell? ⟨w.heap.size, 3, none⟩ = some (.int .i64 o1.v) ∧ Below wc.heap.size wc W) (by kernel_rfl) (by first | exact ⟨p0, p1, p2, p3, Below.refl _ _⟩ | exact ⟨p0, p1, p2, p3, (Below.refl _ _).drew⟩) (fun hHeld => ?_)
            have HD := Lib.hid hHeld.2.2.2.2
            generalize (World.drew wc : World) = Wd at hHeld HD ⊢
            refine wpAnyH_take (i := 1) (v := ?_) rfl (by kernel_rfl) (by kernel_rfl) (by kernel_rfl) (fun _ _ _ h => h) (Or.inl ⟨by rfl, ?_⟩) hHeld ?_
            rotate_left
            · (intro wS hSw; (try dsimp only at hSw); (try go_split_ands); go_simp; try with_reducible rfl)
            try simp only [List.getElem_toArray, List.getElem_cons_succ, List.getElem_cons_zero, Act.put, List.setIfInBounds_toArray, List.set_cons_zero, List.set_cons_succ]
            refine wpAnyH_take (i := 3) (v := ?_) rfl (by kernel_rfl) (by kernel_rfl) (by kernel_rfl) (fun _ _ _ h => h) (Or.inl ⟨by rfl, ?_⟩) hHeld ?_
            rotate_left
            · (intro wS hSw; (try dsimp only at hSw); (try go_split_ands); go_simp; try with_reducible rfl)
            try simp only [List.getElem_toArray, List.getElem_cons_succ, List.getElem_cons_zero, Act.put, List.setIfInBounds_toArray, List.set_cons_zero, List.set_cons_succ]
            refine wpAnyH_take (i := 4) (v := ?_) rfl (by kernel_rfl) (by kernel_rfl) (by kernel_rfl) (fun _ _ _ h => h) (Or.inl ⟨by rfl, ?_⟩) hHeld ?_
            rotate_left
            · (intro wS hSw; (try dsimp only at hSw); (try go_split_ands); go_simp; try with_reducible rfl)
            try simp only [List.getElem_toArray, List.getElem_cons_succ, List.getElem_cons_zero, Act.put, List.setIfInBounds_toArray, List.set_cons_zero, List.set_cons_succ]
            refine wpAnyH_take (i := 5) (v := ?_) rfl (by kernel_rfl) (by kernel_rfl) (by kernel_rfl) (fun _ _ _ h => h) (Or.inl ⟨by rfl, ?_⟩) hHeld ?_
            rotate_left
            · (intro wS hSw; (try dsimp only at hSw); (try go_split_ands); go_simp; try with_reducible rfl)
            try simp only [List.getElem_toArray, List.getElem_cons_succ, List.getElem_cons_zero, Act.put, List.setIfInBounds_toArray, List.set_cons_zero, List.set_cons_succ]
            refine wpAnyH_ready (rs := [0, 6]) (by kernel_rfl) (by simp) ?_
            refine AllReadyH.cons rfl (fun K hK => ?_) (AllReadyH.cons rfl (fun K hK => ?_) AllReadyH.nil)
            · go_simp
              refine hK.out _ _ ?_ (fun hNext => ?_)
              · exact ⟨pkc (pb2 HD.out (pal _)) p0, pkc (pb2 HD.out (pal _)) p1, pkc (pb2 HD.out (pal _)) p2, pkc (pb2 HD.out (pal _)) p3, (pb2 HD.out (pal _))⟩
              clear hK K hHeld
              have hHeld := hNext
              clear hNext
              try simp only [List.getElem_toArray, List.getElem_cons_succ, List.getElem_cons_zero, Act.put, List.setIfInBounds_toArray, List.set_cons_zero, List.set_cons_succ]
              have T0 := Lib.hid (TW.a0 HD.out)
              replace HD := Lib.hid (pb2 HD.out (pal (.cells #[] 62)))
              have hgl : Wd.heap.size < (Wd.alloc (.cells #[] 62)).heap.size := by simp
              generalize Wd.alloc (.cells #[] 62) = Wa at *
              generalize Wd.heap.size = g0 at *
              refine wpAnyH_ready (rs := [2, 6]) (by kernel_rfl) (by simp) ?_
              refine AllReadyH.cons rfl (fun K hK => ?_) (AllReadyH.cons rfl (fun K hK => ?_) AllReadyH.nil)
              · refine step_tw rfl (.tmp 106) (.tmp 107) rfl wc (.slice (some ⟨g0, 0, none⟩) 0 0) [] Mh rfl T0.out HPM.out _ rfl (HSR.out _ HD.out) HL1.out z0.length HL2.out ?_
                intro ao1 lc1 Wb hm1 hc1 hT1 hO1 hK1
                have T1 := Lib.hid hT1
                clear hT1 hO1 hK1
                refine hK.out _ _ ?_ (fun hNext => ?_)
                · exact ⟨pkc T1.out.be p0, pkc T1.out.be p1, pkc T1.out.be p2, pkc T1.out.be p3, T1.out.be⟩
                clear hK K hHeld
                have hHeld := hNext
                clear hNext
                try simp only [List.getElem_toArray, List.getElem_cons_succ, List.getElem_cons_zero, Act.put, List.setIfInBounds_toArray, List.set_cons_zero, List.set_cons_succ]
                refine wpAnyH_ready (rs := [6]) (by kernel_rfl) (by simp) ?_
                refine AllReadyH.cons rfl (fun K hK => ?_) AllReadyH.nil
                go_simp
                refine hK.out _ _ ?_ (fun hNext => ?_)
                · exact ⟨pkc (pb2 T1.out.be (pal _)) p0, pkc (pb2 T1.out.be (pal _)) p1, pkc (pb2 T1.out.be (pal _)) p2, pkc (pb2 T1.out.be (pal _)) p3, (pb2 T1.out.be (pal _))⟩
                clear hK K hHeld
                have hHeld := hNext
                clear hNext
                try simp only [List.getElem_toArray, List.getElem_cons_succ, List.getElem_cons_zero, Act.put, List.setIfInBounds_toArray, List.set_cons_zero, List.set_cons_succ]
                have B6 := Lib.hid (Bq.new Wb #[.int .i64 (tn : Int), .bool true, .int .i64 o1.c, .int .i64 o1.k, .int .i64 o1.h, .int .i64 o1.v, .int .i64 0, .bool false, .int .i64 0, .int .i64 0, .int .i64 0, .slice none 0 0] 62)
                replace T1 := Lib.hid (T1.out.keep (pal (.cells #[.int .i64 (tn : Int), .bool true, .int .i64 o1.c, .int .i64 o1.k, .int .i64 o1.h, .int .i64 o1.v, .int .i64 0, .bool false, .int .i64 0, .int .i64 0, .int .i64 0, .slice none 0 0] 62)))
                generalize Wb.alloc (.cells #[.int .i64 (tn : Int), .bool true, .int .i64 o1.c, .int .i64 o1.k, .int .i64 o1.h, .int .i64 o1.v, .int .i64 0, .bool false, .int .i64 0, .int .i64 0, .int .i64 0, .slice none 0 0] 62) = Wc at *
                generalize Wb.heap.size = g6 at *
                refine wpAnyH_ready (rs := [7]) (by kernel_rfl) (by simp) ?_
                refine AllReadyH.cons rfl (fun K hK => ?_) AllReadyH.nil
                refine step_tw rfl (.tmp 108) (.tmp 112) rfl wc (.slice ao1 z0.length lc1) Mh [⟨⟨(tn : Int), true, o1, zAd⟩, none, 0⟩] rfl T1.out (fun m hm => by rw [List.mem_singleton.1 hm]; exact Prs.nil _) _ rfl (src_ev B6.out) HL3.out (z0.length + 1) HL4.out ?_
                intro ao2 lc2 We hm2 hc2 hT2 hO2 hK2
                have T2 := Lib.hid hT2
                clear hT2 hO2 hK2
                refine hK.out _ _ ?_ (fun hNext => ?_)
                · exact ⟨pkc T2.out.be p0, pkc T2.out.be p1, pkc T2.out.be p2, pkc T2.out.be p3, T2.out.be⟩
                clear hK K hHeld
                have hHeld := hNext
                clear hNext
                try simp only [List.getElem_toArray, List.getElem_cons_succ, List.getElem_cons_zero, Act.put, List.setIfInBounds_toArray, List.set_cons_zero, List.set_cons_succ]
                refine wpAnyH_take (i := 8) (v := ?_) rfl (by kernel_rfl) (by kernel_rfl) (by kernel_rfl) (fun _ _ _ h => h) (Or.inl ⟨by rfl, ?_⟩) hHeld ?_
                rotate_left
                · (intro wS hSw; (try dsimp only at hSw); (try go_split_ands); go_simp; try with_reducible rfl)
                try simp only [List.getElem_toArray, List.getElem_cons_succ, List.getElem_cons_zero, Act.put, List.setIfInBounds_toArray, List.set_cons_zero, List.set_cons_succ]
                refine wpAnyH_done (by kernel_rfl) ?_ _
                clear hHeld
                go_wp2_with (fail)
                go_meet
                exact ⟨ao2, lc2, rfl, by have h := T2.out.es.2; rw [List.map_append, HMM.out] at h; exact h, T2.out.be⟩
              · go_simp
                refine hK.out _ _ ?_ (fun hNext => ?_)
                · exact ⟨pkc (pb2 HD.out (pal _)) p0, pkc (pb2 HD.out (pal _)) p1, pkc (pb2 HD.out (pal _)) p2, pkc (pb2 HD.out (pal _)) p3, (pb2 HD.out (pal _))⟩
                clear hK K hHeld
                have hHeld := hNext
                clear hNext
                try simp only [List.getElem_toArray, List.getElem_cons_succ, List.getElem_cons_zero, Act.put, List.setIfInBounds_toArray, List.set_cons_zero, List.set_cons_succ]
                have B6 := Lib.hid (Bq.new Wa #[.int .i64 (tn : Int), .bool true, .int .i64 o1.c, .int .i64 o1.k, .int .i64 o1.h, .int .i64 o1.v, .int .i64 0, .bool false, .int .i64 0, .int .i64 0, .int .i64 0, .slice none 0 0] 62)
                have hne2 : ¬ g0 = Wa.heap.size := by omega
                replace T0 := Lib.hid (T0.out.keep (pal (.cells #[.int .i64 (tn : Int), .bool true, .int .i64 o1.c, .int .i64 o1.k, .int .i64 o1.h, .int .i64 o1.v, .int .i64 0, .bool false, .int .i64 0, .int .i64 0, .int .i64 0, .slice none 0 0] 62)))
                replace HD := Lib.hid (pb2 HD.out (pal (.cells #[.int .i64 (tn : Int), .bool true, .int .i64 o1.c, .int .i64 o1.k, .int .i64 o1.h, .int .i64 o1.v, .int .i64 0, .bool false, .int .i64 0, .int .i64 0, .int .i64 0, .slice none 0 0] 62)))
                generalize Wa.alloc (.cells #[.int .i64 (tn : Int), .bool true, .int .i64 o1.c, .int .i64 o1.k, .int .i64 o1.h, .int .i64 o1.v, .int .i64 0, .bool false, .int .i64 0, .int .i64 0, .int .i64 0, .slice none 0 0] 62) = Wb at *
                generalize Wa.heap.size = g6 at *
                refine wpAnyH_ready (rs := [2]) (by kernel_rfl) (by simp) ?_
                refine AllReadyH.cons rfl (fun K hK => ?_) AllReadyH.nil
                refine step_tw rfl (.tmp 106) (.tmp 107) rfl wc (.slice (some ⟨g0, 0, none⟩) 0 0) [] Mh rfl T0.out HPM.out _ rfl (HSR.out _ HD.out) HL1.out z0.length HL2.out ?_
                intro ao1 lc1 Wc hm1 hc1 hT1 hO1 hK1
                have T1 := Lib.hid hT1
                replace B6 := Lib.hid (B6.out.only hO1 (fun x => hne2 (by simpa [Value.ownBlock] using x)))
                clear hT1 hO1 hK1
                refine hK.out _ _ ?_ (fun hNext => ?_)
                · exact ⟨pkc T1.out.be p0, pkc T1.out.be p1, pkc T1.out.be p2, pkc T1.out.be p3, T1.out.be⟩
                clear hK K hHeld
                have hHeld := hNext
                clear hNext
                try simp only [List.getElem_toArray, List.getElem_cons_succ, List.getElem_cons_zero, Act.put, List.setIfInBounds_toArray, List.set_cons_zero, List.set_cons_succ]
                refine wpAnyH_ready (rs := [7]) (by kernel_rfl) (by simp) ?_
                refine AllReadyH.cons rfl (fun K hK => ?_) AllReadyH.nil
                refine step_tw rfl (.tmp 108) (.tmp 112) rfl wc (.slice ao1 z0.length lc1) Mh [⟨⟨(tn : Int), true, o1, zAd⟩, none, 0⟩] rfl T1.out (fun m hm => by rw [List.mem_singleton.1 hm]; exact Prs.nil _) _ rfl (src_ev B6.out) HL3.out (z0.length + 1) HL4.out ?_
                intro ao2 lc2 We hm2 hc2 hT2 hO2 hK2
                have T2 := Lib.hid hT2
                clear hT2 hO2 hK2
                refine hK.out _ _ ?_ (fun hNext => ?_)
                · exact ⟨pkc T2.out.be p0, pkc T2.out.be p1, pkc T2.out.be p2, pkc T2.out.be p3, T2.out.be⟩
                clear hK K hHeld
                have hHeld := hNext
                clear hNext
                try simp only [List.getElem_toArray, List.getElem_cons_succ, List.getElem_cons_zero, Act.put, List.setIfInBounds_toArray, List.set_cons_zero, List.set_cons_succ]
                refine wpAnyH_take (i := 8) (v := ?_) rfl (by kernel_rfl) (by kernel_rfl) (by kernel_rfl) (fun _ _ _ h => h) (Or.inl ⟨by rfl, ?_⟩) hHeld ?_
                rotate_left
                · (intro wS hSw; (try dsimp only at hSw); (try go_split_ands); go_simp; try with_reducible rfl)
                try simp only [List.getElem_toArray, List.getElem_cons_succ, List.getElem_cons_zero, Act.put, List.setIfInBounds_toArray, List.set_cons_zero, List.set_cons_succ]
                refine wpAnyH_done (by kernel_rfl) ?_ _
                clear hHeld
                go_wp2_with (fail)
                go_meet
                exact ⟨ao2, lc2, rfl, by have h := T2.out.es.2; rw [List.map_append, HMM.out] at h; exact h, T2.out.be⟩
            · go_simp
              refine hK.out _ _ ?_ (fun hNext => ?_)
              · exact ⟨pkc (pb2 HD.out (pal _)) p0, pkc (pb2 HD.out (pal _)) p1, pkc (pb2 HD.out (pal _)) p2, pkc (pb2 HD.out (pal _)) p3, (pb2 HD.out (pal _))⟩
              clear hK K hHeld
              have hHeld := hNext
              clear hNext
              try simp only [List.getElem_toArray, List.getElem_cons_succ, List.getElem_cons_zero, Act.put, List.setIfInBounds_toArray, List.set_cons_zero, List.set_cons_succ]
              have B6 := Lib.hid (Bq.new Wd #[.int .i64 (tn : Int), .bool true, .int .i64 o1.c, .int .i64 o1.k, .int .i64 o1.h, .int .i64 o1.v, .int .i64 0, .bool false, .int .i64 0, .int .i64 0, .int .i64 0, .slice none 0 0] 62)
              replace HD := Lib.hid (pb2 HD.out (pal (.cells #[.int .i64 (tn : Int), .bool true, .int .i64 o1.c, .int .i64 o1.k, .int .i64 o1.h, .int .i64 o1.v, .int .i64 0, .bool false, .int .i64 0, .int .i64 0, .int .i64 0, .slice none 0 0] 62)))
              generalize Wd.alloc (.cells #[.int .i64 (tn : Int), .bool true, .int .i64 o1.c, .int .i64 o1.k, .int .i64 o1.h, .int .i64 o1.v, .int .i64 0, .bool false, .int .i64 0, .int .i64 0, .int .i64 0, .slice none 0 0] 62) = Wa at *
              generalize Wd.heap.size = g6 at *
              refine wpAnyH_ready (rs := [0]) (by kernel_rfl) (by simp) ?_
              refine AllReadyH.cons rfl (fun K hK => ?_) AllReadyH.nil
              go_simp
              refine hK.out _ _ ?_ (fun hNext => ?_)
              · exact ⟨pkc (pb2 HD.out (pal _)) p0, pkc (pb2 HD.out (pal _)) p1, pkc (pb2 HD.out (pal _)) p2, pkc (pb2 HD.out (pal _)) p3, (pb2 HD.out (pal _))⟩
              clear hK K hHeld
              have hHeld := hNext
              clear hNext
              try simp only [List.getElem_toArray, List.getElem_cons_succ, List.getElem_cons_zero, Act.put, List.setIfInBounds_toArray, List.set_cons_zero, List.set_cons_succ]
              have T0 := Lib.hid (TW.a0 HD.out)
              have hne := B6.out.lt
              have hne2 : ¬ Wa.heap.size = g6 := by omega
              clear hne
              replace B6 := Lib.hid (B6.out.keep (pal (.cells #[] 62)))
              replace HD := Lib.hid (pb2 HD.out (pal (.cells #[] 62)))
              have hgl : Wa.heap.size < (Wa.alloc (.cells #[] 62)).heap.size := by simp
              generalize Wa.alloc (.cells #[] 62) = Wb at *
              generalize Wa.heap.size = g0 at *
              refine wpAnyH_ready (rs := [2]) (by kernel_rfl) (by simp) ?_
              refine AllReadyH.cons rfl (fun K hK => ?_) AllReadyH.nil
              refine step_tw rfl (.tmp 106) (.tmp 107) rfl wc (.slice (some ⟨g0, 0, none⟩) 0 0) [] Mh rfl T0.out HPM.out _ rfl (HSR.out _ HD.out) HL1.out z0.length HL2.out ?_
              intro ao1 lc1 Wc hm1 hc1 hT1 hO1 hK1
              have T1 := Lib.hid hT1
              replace B6 := Lib.hid (B6.out.only hO1 (fun x => hne2 (by simpa [Value.ownBlock] using x)))
              clear hT1 hO1 hK1
              refine hK.out _ _ ?_ (fun hNext => ?_)
              · exact ⟨pkc T1.out.be p0, pkc T1.out.be p1, pkc T1.out.be p2, pkc T1.out.be p3, T1.out.be⟩
              clear hK K hHeld
              have hHeld := hNext
              clear hNext
              try simp only [List.getElem_toArray, List.getElem_cons_succ, List.getElem_cons_zero, Act.put, List.setIfInBounds_toArray, List.set_cons_zero, List.set_cons_succ]
              refine wpAnyH_ready (rs := [7]) (by kernel_rfl) (by simp) ?_
              refine AllReadyH.cons rfl (fun K hK => ?_) AllReadyH.nil
              refine step_tw rfl (.tmp 108) (.tmp 112) rfl wc (.slice ao1 z0.length lc1) Mh [⟨⟨(tn : Int), true, o1, zAd⟩, none, 0⟩] rfl T1.out (fun m hm => by rw [List.mem_singleton.1 hm]; exact Prs.nil _) _ rfl (src_ev B6.out) HL3.out (z0.length + 1) HL4.out ?_
              intro ao2 lc2 We hm2 hc2 hT2 hO2 hK2
              have T2 := Lib.hid hT2
              clear hT2 hO2 hK2
              refine hK.out _ _ ?_ (fun hNext => ?_)
              · exact ⟨pkc T2.out.be p0, pkc T2.out.be p1, pkc T2.out.be p2, pkc T2.out.be p3, T2.out.be⟩
              clear hK K hHeld
              have hHeld := hNext
              clear hNext
              try simp only [List.getElem_toArray, List.getElem_cons_succ, List.getElem_cons_zero, Act.put, List.setIfInBounds_toArray, List.set_cons_zero, List.set_cons_succ]
              refine wpAnyH_take (i := 8) (v := ?_) rfl (by kernel_rfl) (by kernel_rfl) (by kernel_rfl) (fun _ _ _ h => h) (Or.inl ⟨by rfl, ?_⟩) hHeld ?_
              rotate_left
              · (intro wS hSw; (try dsimp only at hSw); (try go_split_ands); go_simp; try with_reducible rfl)
              try simp only [List.getElem_toArray, List.getElem_cons_succ, List.getElem_cons_zero, Act.put, List.setIfInBounds_toArray, List.set_cons_zero, List.set_cons_succ]
              refine wpAnyH_done (by kernel_rfl) ?_ _
              clear hHeld
              go_wp2_with (fail)
              go_meet
              exact ⟨ao2, lc2, rfl, by have h := T2.out.es.2; rw [List.map_append, HMM.out] at h; exact h, T2.out.be⟩
          case rest =>
            obtain ⟨ao2, lc2, rfl, hE2, hB2⟩ := hcut
            have HBD := Lib.hid (pb2 HBC.out hB2)
            have HE1' := Lib.hid (HE1.out.keep hB2)
            have hlb : (s1.beg z0.length ⟨(tn : Int), false, o1, zAd⟩).l.length = s1.l.length + 1 := by unfold Mt.beg; simp
            have cm1 := fun W (hb : Below wc.heap.size wc W) => may_anyP ao1 lc1 (z0 ++ [⟨(tn : Int), false, o1, zAd⟩]) W (HE1'.out.keep hb) (by rw [hNe]; omega) true (by rw [HCC.out]; rfl)
            have cm2 := fun W (hb : Below wc.heap.size wc W) => may_anyP ao2 lc2 (z0 ++ [⟨(tn : Int), true, o1, zAd⟩]) W (hE2.keep hb) (by rw [hNe]; omega) false (by rw [HR.out]; rfl)
            have cc1 := fun W (hb : Below wc.heap.size wc W) => calls_any ao1 lc1 (z0 ++ [⟨(tn : Int), false, o1, zAd⟩]) W (HE1'.out.keep hb) (by rw [hNe]; omega) (fun e he => by
              rcases List.mem_append.1 he with h | h
              · exact HPS.out e h
              · rw [List.mem_singleton.1 h]; exact Nat.zero_le _) (s1.beg z0.length ⟨(tn : Int), false, o1, zAd⟩).l (by unfold callsL; rw [HCC.out])
            have cc2 := fun W (hb : Below wc.heap.size wc W) => cc0 W (pb2 HBD.out hb) s1.l (by unfold callsL; rw [HM.out])
            have co := fun W (hb : Below wc.heap.size wc W) => over_any ao1 lc1 (z0 ++ [⟨(tn : Int), false, o1, zAd⟩]) W (HE1'.out.keep hb) (by rw [hNe]; omega) false (by
              unfold overB
              rw [HCC.out]
              refine decide_eq_false (fun h => ?_)
              have := h ⟨(tn : Int), ((z0.length : Nat) : Int), -1, o1, zAd⟩ (by unfold Mt.beg; simp)
              dsimp only at this
              omega)
            rw [hNe] at cm1 cm2 cc1 co
            unfold CsIs at cc1 cc2
            rw [hlb] at cc1
            have hwl : wrap64 ((s1.l.length : Int) + 1) = (s1.l.length : Int) + 1 := by unfold wrap64; omega
            have HBX := Lib.hid (Below.refl wc.heap.size wc)
            clear cc0 hE2 hB2 hlb HE1 P1C p0 p1 p2 p3 HSR HPM
            go_wp2_with (first
              | (go_at_call 19; ((with_reducible refine (cm1 _ HBX.out).mono ?_); clear cm1; rintro e w5 ⟨rfl, hb5⟩; have HB5 := Lib.hid (pb2 HBX.out hb5); clear hb5))
              | (go_at_call 19; ((with_reducible refine (cm2 _ HB5.out).mono ?_); clear cm2; rintro e w6 ⟨rfl, hb6⟩; have HB6 := Lib.hid (pb2 HB5.out hb6); clear hb6))
              | (go_at_call 22; ((with_reducible refine (cc1 _ HB6.out).mono ?_); clear cc1; rintro e w7 ⟨xa7, xc7, rfl, hc7, hb7⟩; have hq7 := hc7.1; have hr7 := hc7.2.1; unfold maxLen at hr7; have HB7 := Lib.hid (pb2 HB6.out hb7); clear hb7 hc7))
              | (go_at_call 22; ((with_reducible refine (cc2 _ HB7.out).mono ?_); clear cc2; rintro e w8 ⟨xa8, xc8, rfl, hc8, hb8⟩; have hq8 := hc8.1; have hr8 := hc8.2.1; unfold maxLen at hr8; have HB8 := Lib.hid (pb2 HB7.out hb8); clear hb8 hc8))
              | (go_at_call 25; ((with_reducible refine (co _ HB8.out).mono ?_); clear co; rintro e w9 ⟨rfl, hb9⟩; have HB9 := Lib.hid (pb2 HB8.out hb9); clear hb9))
              | (go_at_call 21; ((with_reducible refine (ca _ (pb2 HBD.out HB9.out)).mono ?_); clear ca; rintro e wa ⟨rfl, hba⟩; have HBa := Lib.hid (pb2 HBD.out (pb2 HB9.out hba)); clear hba))
              | fail)
            go_ret
            exact ⟨by simp, HBa.out⟩
        · rw [ho]
          obtain ⟨x, hx⟩ : ∃ x, z0[p]? = some x := ⟨_, List.getElem?_eq_getElem hpn⟩
          have hgx : z0.getD p zEv = x := by rw [List.getD_eq_getElem?_getD, hx]; rfl
          rw [hgx] at hop
          obtain ⟨b, o, pa, pc, rfl, hxw⟩ := HW.out.2.2 p x hx
          have HXW := Lib.hid hxw
          obtain ⟨xt, xr, xo, xa⟩ := x
          dsimp only at hop
          have HOP := Lib.hid hop
          have hp0 : (0 : Int) ≤ (p : Int) := Int.natCast_nonneg p
          have hpl : (p : Int) < (z0.length : Int) := Int.ofNat_lt.2 hpn
          have hC := snoc_call HM.out (t := (tn : Int)) (okT_nat ht6) HK1.out
          rw [if_neg (by omega)] at hC
          have hR := snoc_ret HM.out (t := (tn : Int)) (o := xo) (a := zAd) (okT_nat ht6)
          rw [if_pos ⟨hx0, hop⟩] at hR
          have HR := Lib.hid hR
          have HCC := Lib.hid hC
          have HX0 := Lib.hid hx0
          clear hR hC hx hgx hxw hx0 ho hop
          go_wp2_with (fail)
          have HPM := Lib.hid (show ∀ m ∈ Mh, Prs wc m.a m.c m.e.a.ps from fun m hm => (HPM0.out m hm).below HBC.out)
          have HSR := Lib.hid (show ∀ W, Below wc.heap.size wc W → Source W (.slice (some ⟨b, o, none⟩) z0.length cap0) Mh.length (cellsE Mh) from fun W hb => src_keep HSRC.out (pb2 HBC.out hb))
          obtain ⟨-, -, e2, e3, e4, e5, -⟩ := (HXW.out.keep HBC.out).ex
          dsimp only at e2 e3 e4 e5
          go_cut [13] from 64 to 75 (fun v wx => ∃ (ao : Option Addr) (lc : Nat), v = .slice ao (z0.length + 1) lc ∧ Es wx ao lc (z0 ++ [⟨(tn : Int), true, xo, zAd⟩]) ∧ Below wc.heap.size wc wx)
          case first =>
            refine wp_region_held_drew (S := fun W => W.cell? ⟨b, o + p * 12 + 2, none⟩ = some (.int .i64 xo.c) ∧ W.cell? ⟨b, o + p * 12 + 3, none⟩ = some (.int .i64 xo.k) ∧ W.cell? ⟨b, o + p * 12 + 4, none⟩ = some (.int .i64 xo.h) ∧ W.cell? ⟨b, o + p * 12 + 5, none⟩ = some (.int .i64 xo.v) ∧ Below wc.heap.size wc W) (by kernel_rfl) (by first | exact ⟨e2, e3, e4, e5, Below.refl _ _⟩ | exact ⟨e2, e3, e4, e5, (Below.refl _ _).drew⟩) (fun hHeld => ?_)
            have HD := Lib.hid hHeld.2.2.2.2
            generalize (World.drew wc : World) = Wd at hHeld HD ⊢
            refine wpAnyH_take (i := 1) (v := ?_) rfl (by kernel_rfl) (by kernel_rfl) (by kernel_rfl) (fun _ _ _ h => h) (Or.inl ⟨by rfl, ?_⟩) hHeld ?_
            rotate_left
            · (intro wS hSw; (try dsimp only at hSw); (try go_split_ands); go_simp; try with_reducible rfl)
            try simp only [List.getElem_toArray, List.getElem_cons_succ, List.getElem_cons_zero, Act.put, List.setIfInBounds_toArray, List.set_cons_zero, List.set_cons_succ]
            refine wpAnyH_take (i := 3) (v := ?_) rfl (by kernel_rfl) (by kernel_rfl) (by kernel_rfl) (fun _ _ _ h => h) (Or.inl ⟨by rfl, ?_⟩) hHeld ?_
            rotate_left
            · (intro wS hSw; (try dsimp only at hSw); (try go_split_ands); go_simp; try with_reducible rfl)
            try simp only [List.getElem_toArray, List.getElem_cons_succ, List.getElem_cons_zero, Act.put, List.setIfInBounds_toArray, List.set_cons_zero, List.set_cons_succ]
            refine wpAnyH_take (i := 4) (v := ?_) rfl (by kernel_rfl) (by kernel_rfl) (by kernel_rfl) (fun _ _ _ h => h) (Or.inl ⟨by rfl, ?_⟩) hHeld ?_
            rotate_left
            · (intro wS hSw; (try dsimp only at hSw); (try go_split_ands); go_simp; try with_reducible rfl)
            try simp only [List.getElem_toArray, List.getElem_cons_succ, List.getElem_cons_zero, Act.put, List.setIfInBounds_toArray, List.set_cons_zero, List.set_cons_succ]
            refine wpAnyH_take (i := 5) (v := ?_) rfl (by kernel_rfl) (by kernel_rfl) (by kernel_rfl) (fun _ _ _ h => h) (Or.inl ⟨by rfl, ?_⟩) hHeld ?_
            rotate_left
            · (intro wS hSw; (try dsimp only at hSw); (try go_split_ands); go_simp; try with_reducible rfl)
            try simp only [List.getElem_toArray, List.getElem_cons_succ, List.getElem_cons_zero, Act.put, List.setIfInBounds_toArray, List.set_cons_zero, List.set_cons_succ]
            refine wpAnyH_take (i := 6) (v := ?_) rfl (by kernel_rfl) (by kernel_rfl) (by kernel_rfl) (fun _ _ _ h => h) (Or.inl ⟨by rfl, ?_⟩) hHeld ?_
            rotate_left
            · (intro wS hSw; (try dsimp only at hSw); (try go_split_ands); go_simp; try with_reducible rfl)
            try simp only [List.getElem_toArray, List.getElem_cons_succ, List.getElem_cons_zero, Act.put, List.setIfInBounds_toArray, List.set_cons_zero, List.set_cons_succ]
            refine wpAnyH_take (i := 7) (v := ?_) rfl (by kernel_rfl) (by kernel_rfl) (by kernel_rfl) (fun _ _ _ h => h) (Or.inl ⟨by rfl, ?_⟩) hHeld ?_
            rotate_left
            · (intro wS hSw; (try dsimp only at hSw); (try go_split_ands); go_simp; try with_reducible rfl)
            try simp only [List.getElem_toArray, List.getElem_cons_succ, List.getElem_cons_zero, Act.put, List.setIfInBounds_toArray, List.set_cons_zero, List.set_cons_succ]
            refine wpAnyH_take (i := 8) (v := ?_) rfl (by kernel_rfl) (by kernel_rfl) (by kernel_rfl) (fun _ _ _ h => h) (Or.inl ⟨by rfl, ?_⟩) hHeld ?_
            rotate_left
            · (intro wS hSw; (try dsimp only at hSw); (try go_split_ands); go_simp; try with_reducible rfl)
            try simp only [List.getElem_toArray, List.getElem_cons_succ, List.getElem_cons_zero, Act.put, List.setIfInBounds_toArray, List.set_cons_zero, List.set_cons_succ]
            refine wpAnyH_take (i := 9) (v := ?_) rfl (by kernel_rfl) (by kernel_rfl) (by kernel_rfl) (fun _ _ _ h => h) (Or.inl ⟨by rfl, ?_⟩) hHeld ?_
            rotate_left
            · (intro wS hSw; (try dsimp only at hSw); (try go_split_ands); go_simp; try with_reducible rfl)
            try simp only [List.getElem_toArray, List.getElem_cons_succ, List.getElem_cons_zero, Act.put, List.setIfInBounds_toArray, List.set_cons_zero, List.set_cons_succ]
            refine wpAnyH_ready (rs := [0, 10]) (by kernel_rfl) (by simp) ?_
            refine AllReadyH.cons rfl (fun K hK => ?_) (AllReadyH.cons rfl (fun K hK => ?_) AllReadyH.nil)
            · go_simp
              refine hK.out _ _ ?_ (fun hNext => ?_)
              · exact ⟨pkc (pb2 HD.out (pal _)) e2, pkc (pb2 HD.out (pal _)) e3, pkc (pb2 HD.out (pal _)) e4, pkc (pb2 HD.out (pal _)) e5, (pb2 HD.out (pal _))⟩
              clear hK K hHeld
              have hHeld := hNext
              clear hNext
              try simp only [List.getElem_toArray, List.getElem_cons_succ, List.getElem_cons_zero, Act.put, List.setIfInBounds_toArray, List.set_cons_zero, List.set_cons_succ]
              have T0 := Lib.hid (TW.a0 HD.out)
              replace HD := Lib.hid (pb2 HD.out (pal (.cells #[] 62)))
              have hgl : Wd.heap.size < (Wd.alloc (.cells #[] 62)).heap.size := by simp
              generalize Wd.alloc (.cells #[] 62) = Wa at *
              generalize Wd.heap.size = g0 at *
              refine wpAnyH_ready (rs := [2, 10]) (by kernel_rfl) (by simp) ?_
              refine AllReadyH.cons rfl (fun K hK => ?_) (AllReadyH.cons rfl (fun K hK => ?_) AllReadyH.nil)
              · refine step_tw rfl (.tmp 64) (.tmp 65) rfl wc (.slice (some ⟨g0, 0, none⟩) 0 0) [] Mh rfl T0.out HPM.out _ rfl (HSR.out _ HD.out) HL1.out z0.length HL2.out ?_
                intro ao1 lc1 Wb hm1 hc1 hT1 hO1 hK1
                have T1 := Lib.hid hT1
                clear hT1 hO1 hK1
                refine hK.out _ _ ?_ (fun hNext => ?_)
                · exact ⟨pkc T1.out.be e2, pkc T1.out.be e3, pkc T1.out.be e4, pkc T1.out.be e5, T1.out.be⟩
                clear hK K hHeld
                have hHeld := hNext
                clear hNext
                try simp only [List.getElem_toArray, List.getElem_cons_succ, List.getElem_cons_zero, Act.put, List.setIfInBounds_toArray, List.set_cons_zero, List.set_cons_succ]
                refine wpAnyH_ready (rs := [10]) (by kernel_rfl) (by simp) ?_
                refine AllReadyH.cons rfl (fun K hK => ?_) AllReadyH.nil
                go_simp
                refine hK.out _ _ ?_ (fun hNext => ?_)
                · exact ⟨pkc (pb2 T1.out.be (pal _)) e2, pkc (pb2 T1.out.be (pal _)) e3, pkc (pb2 T1.out.be (pal _)) e4, pkc (pb2 T1.out.be (pal _)) e5, (pb2 T1.out.be (pal _))⟩
                clear hK K hHeld
                have hHeld := hNext
                clear hNext
                try simp only [List.getElem_toArray, List.getElem_cons_succ, List.getElem_cons_zero, Act.put, List.setIfInBounds_toArray, List.set_cons_zero, List.set_cons_succ]
                have B6 := Lib.hid (Bq.new Wb #[.int .i64 (tn : Int), .bool true, .int .i64 xo.c, .int .i64 xo.k, .int .i64 xo.h, .int .i64 xo.v, .int .i64 0, .bool false, .int .i64 0, .int .i64 0, .int .i64 0, .slice none 0 0] 62)
                replace T1 := Lib.hid (T1.out.keep (pal (.cells #[.int .i64 (tn : Int), .bool true, .int .i64 xo.c, .int .i64 xo.k, .int .i64 xo.h, .int .i64 xo.v, .int .i64 0, .bool false, .int .i64 0, .int .i64 0, .int .i64 0, .slice none 0 0] 62)))
                generalize Wb.alloc (.cells #[.int .i64 (tn : Int), .bool true, .int .i64 xo.c, .int .i64 xo.k, .int .i64 xo.h, .int .i64 xo.v, .int .i64 0, .bool false, .int .i64 0, .int .i64 0, .int .i64 0, .slice none 0 0] 62) = Wc at *
                generalize Wb.heap.size = g6 at *
                refine wpAnyH_ready (rs := [11]) (by kernel_rfl) (by simp) ?_
                refine AllReadyH.cons rfl (fun K hK => ?_) AllReadyH.nil
                refine step_tw rfl (.tmp 66) (.tmp 74) rfl wc (.slice ao1 z0.length lc1) Mh [⟨⟨(tn : Int), true, xo, zAd⟩, none, 0⟩] rfl T1.out (fun m hm => by rw [List.mem_singleton.1 hm]; exact Prs.nil _) _ rfl (src_ev B6.out) HL3.out (z0.length + 1) HL4.out ?_
                intro ao2 lc2 We hm2 hc2 hT2 hO2 hK2
                have T2 := Lib.hid hT2
                clear hT2 hO2 hK2
                refine hK.out _ _ ?_ (fun hNext => ?_)
                · exact ⟨pkc T2.out.be e2, pkc T2.out.be e3, pkc T2.out.be e4, pkc T2.out.be e5, T2.out.be⟩
                clear hK K hHeld
                have hHeld := hNext
                clear hNext
                try simp only [List.getElem_toArray, List.getElem_cons_succ, List.getElem_cons_zero, Act.put, List.setIfInBounds_toArray, List.set_cons_zero, List.set_cons_succ]
                refine wpAnyH_take (i := 12) (v := ?_) rfl (by kernel_rfl) (by kernel_rfl) (by kernel_rfl) (fun _ _ _ h => h) (Or.inl ⟨by rfl, ?_⟩) hHeld ?_
                rotate_left
                · (intro wS hSw; (try dsimp only at hSw); (try go_split_ands); go_simp; try with_reducible rfl)
                try simp only [List.getElem_toArray, List.getElem_cons_succ, List.getElem_cons_zero, Act.put, List.setIfInBounds_toArray, List.set_cons_zero, List.set_cons_succ]
                refine wpAnyH_done (by kernel_rfl) ?_ _
                clear hHeld
                go_wp2_with (fail)
                go_meet
                exact ⟨ao2, lc2, rfl, by have h := T2.out.es.2; rw [List.map_append, HMM.out] at h; exact h, T2.out.be⟩
              · go_simp
                refine hK.out _ _ ?_ (fun hNext => ?_)
                · exact ⟨pkc (pb2 HD.out (pal _)) e2, pkc (pb2 HD.out (pal _)) e3, pkc (pb2 HD.out (pal _)) e4, pkc (pb2 HD.out (pal _)) e5, (pb2 HD.out (pal _))⟩
                clear hK K hHeld
                have hHeld := hNext
                clear hNext
                try simp only [List.getElem_toArray, List.getElem_cons_succ, List.getElem_cons_zero, Act.put, List.setIfInBounds_toArray, List.set_cons_zero, List.set_cons_succ]
                have B6 := Lib.hid (Bq.new Wa #[.int .i64 (tn : Int), .bool true, .int .i64 xo.c, .int .i64 xo.k, .int .i64 xo.h, .int .i64 xo.v, .int .i64 0, .bool false, .int .i64 0, .int .i64 0, .int .i64 0, .slice none 0 0] 62)
                have hne2 : ¬ g0 = Wa.heap.size := by omega
                replace T0 := Lib.hid (T0.out.keep (pal (.cells #[.int .i64 (tn : Int), .bool true, .int .i64 xo.c, .int .i64 xo.k, .int .i64 xo.h, .int .i64 xo.v, .int .i64 0, .bool false, .int .i64 0, .int .i64 0, .int .i64 0, .slice none 0 0] 62)))
                replace HD := Lib.hid (pb2 HD.out (pal (.cells #[.int .i64 (tn : Int), .bool true, .int .i64 xo.c, .int .i64 xo.k, .int .i64 xo.h, .int .i64 xo.v, .int .i64 0, .bool false, .int .i64 0, .int .i64 0, .int .i64 0, .slice none 0 0] 62)))
                generalize Wa.alloc (.cells #[.int .i64 (tn : Int), .bool true, .int .i64 xo.c, .int .i64 xo.k, .int .i64 xo.h, .int .i64 xo.v, .int .i64 0, .bool false, .int .i64 0, .int .i64 0, .int .i64 0, .slice none 0 0] 62) = Wb at *
                generalize Wa.heap.size = g6 at *
                refine wpAnyH_ready (rs := [2]) (by kernel_rfl) (by simp) ?_
                refine AllReadyH.cons rfl (fun K hK => ?_) AllReadyH.nil
                refine step_tw rfl (.tmp 64) (.tmp 65) rfl wc (.slice (some ⟨g0, 0, none⟩) 0 0) [] Mh rfl T0.out HPM.out _ rfl (HSR.out _ HD.out) HL1.out z0.length HL2.out ?_
                intro ao1 lc1 Wc hm1 hc1 hT1 hO1 hK1
                have T1 := Lib.hid hT1
                replace B6 := Lib.hid (B6.out.only hO1 (fun x => hne2 (by simpa [Value.ownBlock] using x)))
                clear hT1 hO1 hK1
                refine hK.out _ _ ?_ (fun hNext => ?_)
                · exact ⟨pkc T1.out.be e2, pkc T1.out.be e3, pkc T1.out.be e4, pkc T1.out.be e5, T1.out.be⟩
                clear hK K hHeld
                have hHeld := hNext
                clear hNext
                try simp only [List.getElem_toArray, List.getElem_cons_succ, List.getElem_cons_zero, Act.put, List.setIfInBounds_toArray, List.set_cons_zero, List.set_cons_succ]
                refine wpAnyH_ready (rs := [11]) (by kernel_rfl) (by simp) ?_
                refine AllReadyH.cons rfl (fun K hK => ?_) AllReadyH.nil
                refine step_tw rfl (.tmp 66) (.tmp 74) rfl wc (.slice ao1 z0.length lc1) Mh [⟨⟨(tn : Int), true, xo, zAd⟩, none, 0⟩] rfl T1.out (fun m hm => by rw [List.mem_singleton.1 hm]; exact Prs.nil _) _ rfl (src_ev B6.out) HL3.out (z0.length + 1) HL4.out ?_
                intro ao2 lc2 We hm2 hc2 hT2 hO2 hK2
                have T2 := Lib.hid hT2
                clear hT2 hO2 hK2
                refine hK.out _ _ ?_ (fun hNext => ?_)
                · exact ⟨pkc T2.out.be e2, pkc T2.out.be e3, pkc T2.out.be e4, pkc T2.out.be e5, T2.out.be⟩
                clear hK K hHeld
                have hHeld := hNext
                clear hNext
                try simp only [List.getElem_toArray, List.getElem_cons_succ, List.getElem_cons_zero, Act.put, List.setIfInBounds_toArray, List.set_cons_zero, List.set_cons_succ]
                refine wpAnyH_take (i := 12) (v := ?_) rfl (by kernel_rfl) (by kernel_rfl) (by kernel_rfl) (fun _ _ _ h => h) (Or.inl ⟨by rfl, ?_⟩) hHeld ?_
                rotate_left
                · (intro wS hSw; (try dsimp only at hSw); (try go_split_ands); go_simp; try with_reducible rfl)
                try simp only [List.getElem_toArray, List.getElem_cons_succ, List.getElem_cons_zero, Act.put, List.setIfInBounds_toArray, List.set_cons_zero, List.set_cons_succ]
                refine wpAnyH_done (by kernel_rfl) ?_ _
                clear hHeld
                go_wp2_with (fail)
                go_meet
                exact ⟨ao2, lc2, rfl, by have h := T2.out.es.2; rw [List.map_append, HMM.out] at h; exact h, T2.out.be⟩
            · go_simp
              refine hK.out _ _ ?_ (fun hNext => ?_)
              · exact ⟨pkc (pb2 HD.out (pal _)) e2, pkc (pb2 HD.out (pal _)) e3, pkc (pb2 HD.out (pal _)) e4, pkc (pb2 HD.out (pal _)) e5, (pb2 HD.out (pal _))⟩
              clear hK K hHeld
              have hHeld := hNext
              clear hNext
              try simp only [List.getElem_toArray, List.getElem_cons_succ, List.getElem_cons_zero, Act.put, List.setIfInBounds_toArray, List.set_cons_zero, List.set_cons_succ]
              have B6 := Lib.hid (Bq.new Wd #[.int .i64 (tn : Int), .bool true, .int .i64 xo.c, .int .i64 xo.k, .int .i64 xo.h, .int .i64 xo.v, .int .i64 0, .bool false, .int .i64 0, .int .i64 0, .int .i64 0, .slice none 0 0] 62)
              replace HD := Lib.hid (pb2 HD.out (pal (.cells #[.int .i64 (tn : Int), .bool true, .int .i64 xo.c, .int .i64 xo.k, .int .i64 xo.h, .int .i64 xo.v, .int .i64 0, .bool false, .int .i64 0, .int .i64 0, .int .i64 0, .slice none 0 0] 62)))
              generalize Wd.alloc (.cells #[.int .i64 (tn : Int), .bool true, .int .i64 xo.c, .int .i64 xo.k, .int .i64 xo.h, .int .i64 xo.v, .int .i64 0, .bool false, .int .i64 0, .int .i64 0, .int .i64 0, .slice none 0 0] 62) = Wa at *
              generalize Wd.heap.size = g6 at *
              refine wpAnyH_ready (rs := [0]) (by kernel_rfl) (by simp) ?_
              refine AllReadyH.cons rfl (fun K hK => ?_) AllReadyH.nil
              go_simp
              refine hK.out _ _ ?_ (fun hNext => ?_)
              · exact ⟨pkc (pb2 HD.out (pal _)) e2, pkc (pb2 HD.out (pal _)) e3, pkc (pb2 HD.out (pal _)) e4, pkc (pb2 HD.out (pal _)) e5, (pb2 HD.out (pal _))⟩
              clear hK K hHeld
              have hHeld := hNext
              clear hNext
              try simp only [List.getElem_toArray, List.getElem_cons_succ, List.getElem_cons_zero, Act.put, List.setIfInBounds_toArray, List.set_cons_zero, List.set_cons_succ]
              have T0 := Lib.hid (TW.a0 HD.out)
              have hne := B6.out.lt
              have hne2 : ¬ Wa.heap.size = g6 := by omega
              clear hne
              replace B6 := Lib.hid (B6.out.keep (pal (.cells #[] 62)))
              replace HD := Lib.hid (pb2 HD.out (pal (.cells #[] 62)))
              have hgl : Wa.heap.size < (Wa.alloc (.cells #[] 62)).heap.size := by simp
              generalize Wa.alloc (.cells #[] 62) = Wb at *
              generalize Wa.heap.size = g0 at *
              refine wpAnyH_ready (rs := [2]) (by kernel_rfl) (by simp) ?_
              refine AllReadyH.cons rfl (fun K hK => ?_) AllReadyH.nil
              refine step_tw rfl (.tmp 64) (.tmp 65) rfl wc (.slice (some ⟨g0, 0, none⟩) 0 0) [] Mh rfl T0.out HPM.out _ rfl (HSR.out _ HD.out) HL1.out z0.length HL2.out ?_
              intro ao1 lc1 Wc hm1 hc1 hT1 hO1 hK1
              have T1 := Lib.hid hT1
              replace B6 := Lib.hid (B6.out.only hO1 (fun x => hne2 (by simpa [Value.ownBlock] using x)))
              clear hT1 hO1 hK1
              refine hK.out _ _ ?_ (fun hNext => ?_)
              · exact ⟨pkc T1.out.be e2, pkc T1.out.be e3, pkc T1.out.be e4, pkc T1.out.be e5, T1.out.be⟩
              clear hK K hHeld
              have hHeld := hNext
              clear hNext
              try simp only [List.getElem_toArray, List.getElem_cons_succ, List.getElem_cons_zero, Act.put, List.setIfInBounds_toArray, List.set_cons_zero, List.set_cons_succ]
              refine wpAnyH_ready (rs := [11]) (by kernel_rfl) (by simp) ?_
              refine AllReadyH.cons rfl (fun K hK => ?_) AllReadyH.nil
              refine step_tw rfl (.tmp 66) (.tmp 74) rfl wc (.slice ao1 z0.length lc1) Mh [⟨⟨(tn : Int), true, xo, zAd⟩, none, 0⟩] rfl T1.out (fun m hm => by rw [List.mem_singleton.1 hm]; exact Prs.nil _) _ rfl (src_ev B6.out) HL3.out (z0.length + 1) HL4.out ?_
              intro ao2 lc2 We hm2 hc2 hT2 hO2 hK2
              have T2 := Lib.hid hT2
              clear hT2 hO2 hK2
              refine hK.out _ _ ?_ (fun hNext => ?_)
              · exact ⟨pkc T2.out.be e2, pkc T2.out.be e3, pkc T2.out.be e4, pkc T2.out.be e5, T2.out.be⟩
              clear hK K hHeld
              have hHeld := hNext
              clear hNext
              try simp only [List.getElem_toArray, List.getElem_cons_succ, List.getElem_cons_zero, Act.put, List.setIfInBounds_toArray, List.set_cons_zero, List.set_cons_succ]
              refine wpAnyH_take (i := 12) (v := ?_) rfl (by kernel_rfl) (by kernel_rfl) (by kernel_rfl) (fun _ _ _ h => h) (Or.inl ⟨by rfl, ?_⟩) hHeld ?_
              rotate_left
              · (intro wS hSw; (try dsimp only at hSw); (try go_split_ands); go_simp; try with_reducible rfl)
              try simp only [List.getElem_toArray, List.getElem_cons_succ, List.getElem_cons_zero, Act.put, List.setIfInBounds_toArray, List.set_cons_zero, List.set_cons_succ]
              refine wpAnyH_done (by kernel_rfl) ?_ _
              clear hHeld
              go_wp2_with (fail)
              go_meet
              exact ⟨ao2, lc2, rfl, by have h := T2.out.es.2; rw [List.map_append, HMM.out] at h; exact h, T2.out.be⟩
          case rest =>
            obtain ⟨ao2, lc2, rfl, hE2, hB2⟩ := hcut
            have HBD := Lib.hid (pb2 HBC.out hB2)
            have HE1' := Lib.hid (HE1.out.keep hB2)
            have HE2 := Lib.hid hE2
            have P2D := Lib.hid (P2C.out.keep hB2)
            clear hE2 hB2 HE1 P1C P2C HSR HPM e2 e3 e4 e5 HBC
            go_wp2_with (fail)
            have HPM := Lib.hid (show ∀ m ∈ Mh, Prs wc m.a m.c m.e.a.ps from fun m hm => (HPM0.out m hm).below HBD.out)
            have HSR := Lib.hid (show ∀ W, Below wc.heap.size wc W → Source W (.slice (some ⟨b, o, none⟩) z0.length cap0) Mh.length (cellsE Mh) from fun W hb => src_keep HSRC.out (pb2 HBD.out hb))
            have r0 := P2D.out.at_ 0 _ rfl
            have r1 := P2D.out.at_ 1 _ rfl
            have r2 := P2D.out.at_ 2 _ rfl
            have r3 := P2D.out.at_ 3 _ rfl
            go_cut [14] from 76 to 83 (fun v wx => ∃ (ao : Option Addr) (lc : Nat), v = .slice ao (z0.length + 1) lc ∧ Es wx ao lc (z0 ++ [⟨(tn : Int), true, o2, zAd⟩]) ∧ Below wc.heap.size wc wx)
            case first =>
              refine wp_region_held_drew (S := fun W => W.cell? ⟨(w.heap.size + 1), 0, none⟩ = some (.int .i64 o2.c) ∧ W.cell? ⟨(w.heap.size + 1), 1, none⟩ = some (.int .i64 o2.k) ∧ W.cell? ⟨(w.heap.size + 1), 2, none⟩ = some (.int .i64 o2.h) ∧ W.cell? ⟨(w.heap.size + 1), 3, none⟩ = some (.int .i64 o2.v) ∧ Below wc.heap.size wc W) (by kernel_rfl) (by first | exact ⟨r0, r1, r2, r3, Below.refl _ _⟩ | exact ⟨r0, r1, r2, r3, (Below.refl _ _).drew⟩) (fun hHeld => ?_)
              have HD := Lib.hid hHeld.2.2.2.2
              generalize (World.drew wc : World) = Wd at hHeld HD ⊢
              refine wpAnyH_take (i := 1) (v := ?_) rfl (by kernel_rfl) (by kernel_rfl) (by kernel_rfl) (fun _ _ _ h => h) (Or.inl ⟨by rfl, ?_⟩) hHeld ?_
              rotate_left
              · (intro wS hSw; (try dsimp only at hSw); (try go_split_ands); go_simp; try with_reducible rfl)
              try simp only [List.getElem_toArray, List.getElem_cons_succ, List.getElem_cons_zero, Act.put, List.setIfInBounds_toArray, List.set_cons_zero, List.set_cons_succ]
              refine wpAnyH_take (i := 3) (v := ?_) rfl (by kernel_rfl) (by kernel_rfl) (by kernel_rfl) (fun _ _ _ h => h) (Or.inl ⟨by rfl, ?_⟩) hHeld ?_
              rotate_left
              · (intro wS hSw; (try dsimp only at hSw); (try go_split_ands); go_simp; try with_reducible rfl)
              try simp only [List.getElem_toArray, List.getElem_cons_succ, List.getElem_cons_zero, Act.put, List.setIfInBounds_toArray, List.set_cons_zero, List.set_cons_succ]
              refine wpAnyH_take (i := 4) (v := ?_) rfl (by kernel_rfl) (by kernel_rfl) (by kernel_rfl) (fun _ _ _ h => h) (Or.inl ⟨by rfl, ?_⟩) hHeld ?_
              rotate_left
              · (intro wS hSw; (try dsimp only at hSw); (try go_split_ands); go_simp; try with_reducible rfl)
              try simp only [List.getElem_toArray, List.getElem_cons_succ, List.getElem_cons_zero, Act.put, List.setIfInBounds_toArray, List.set_cons_zero, List.set_cons_succ]
              refine wpAnyH_take (i := 5) (v := ?_) rfl (by kernel_rfl) (by kernel_rfl) (by kernel_rfl) (fun _ _ _ h => h) (Or.inl ⟨by rfl, ?_⟩) hHeld ?_
              rotate_left
              · (intro wS hSw; (try dsimp only at hSw); (try go_split_ands); go_simp; try with_reducible rfl)
              try simp only [List.getElem_toArray, List.getElem_cons_succ, List.getElem_cons_zero, Act.put, List.setIfInBounds_toArray, List.set_cons_zero, List.set_cons_succ]
              refine wpAnyH_ready (rs := [0, 6]) (by kernel_rfl) (by simp) ?_
              refine AllReadyH.cons rfl (fun K hK => ?_) (AllReadyH.cons rfl (fun K hK => ?_) AllReadyH.nil)
              · go_simp
                refine hK.out _ _ ?_ (fun hNext => ?_)
                · exact ⟨pkc (pb2 HD.out (pal _)) r0, pkc (pb2 HD.out (pal _)) r1, pkc (pb2 HD.out (pal _)) r2, pkc (pb2 HD.out (pal _)) r3, (pb2 HD.out (pal _))⟩
                clear hK K hHeld
                have hHeld := hNext
                clear hNext
                try simp only [List.getElem_toArray, List.getElem_cons_succ, List.getElem_cons_zero, Act.put, List.setIfInBounds_toArray, List.set_cons_zero, List.set_cons_succ]
                have T0 := Lib.hid (TW.a0 HD.out)
                replace HD := Lib.hid (pb2 HD.out (pal (.cells #[] 62)))
                have hgl : Wd.heap.size < (Wd.alloc (.cells #[] 62)).heap.size := by simp
                generalize Wd.alloc (.cells #[] 62) = Wa at *
                generalize Wd.heap.size = g0 at *
                refine wpAnyH_ready (rs := [2, 6]) (by kernel_rfl) (by simp) ?_
                refine AllReadyH.cons rfl (fun K hK => ?_) (AllReadyH.cons rfl (fun K hK => ?_) AllReadyH.nil)
                · refine step_tw rfl (.tmp 76) (.tmp 77) rfl wc (.slice (some ⟨g0, 0, none⟩) 0 0) [] Mh rfl T0.out HPM.out _ rfl (HSR.out _ HD.out) HL1.out z0.length HL2.out ?_
                  intro ao1 lc1 Wb hm1 hc1 hT1 hO1 hK1
                  have T1 := Lib.hid hT1
                  clear hT1 hO1 hK1
                  refine hK.out _ _ ?_ (fun hNext => ?_)
                  · exact ⟨pkc T1.out.be r0, pkc T1.out.be r1, pkc T1.out.be r2, pkc T1.out.be r3, T1.out.be⟩
                  clear hK K hHeld
                  have hHeld := hNext
                  clear hNext
                  try simp only [List.getElem_toArray, List.getElem_cons_succ, List.getElem_cons_zero, Act.put, List.setIfInBounds_toArray, List.set_cons_zero, List.set_cons_succ]
                  refine wpAnyH_ready (rs := [6]) (by kernel_rfl) (by simp) ?_
                  refine AllReadyH.cons rfl (fun K hK => ?_) AllReadyH.nil
                  go_simp
                  refine hK.out _ _ ?_ (fun hNext => ?_)
                  · exact ⟨pkc (pb2 T1.out.be (pal _)) r0, pkc (pb2 T1.out.be (pal _)) r1, pkc (pb2 T1.out.be (pal _)) r2, pkc (pb2 T1.out.be (pal _)) r3, (pb2 T1.out.be (pal _))⟩
                  clear hK K hHeld
                  have hHeld := hNext
                  clear hNext
                  try simp only [List.getElem_toArray, List.getElem_cons_succ, List.getElem_cons_zero, Act.put, List.setIfInBounds_toArray, List.set_cons_zero, List.set_cons_succ]
                  have B6 := Lib.hid (Bq.new Wb #[.int .i64 (tn : Int), .bool true, .int .i64 o2.c, .int .i64 o2.k, .int .i64 o2.h, .int .i64 o2.v, .int .i64 0, .bool false, .int .i64 0, .int .i64 0, .int .i64 0, .slice none 0 0] 62)
                  replace T1 := Lib.hid (T1.out.keep (pal (.cells #[.int .i64 (tn : Int), .bool true, .int .i64 o2.c, .int .i64 o2.k, .int .i64 o2.h, .int .i64 o2.v, .int .i64 0, .bool false, .int .i64 0, .int .i64 0, .int .i64 0, .slice none 0 0] 62)))
                  generalize Wb.alloc (.cells #[.int .i64 (tn : Int), .bool true, .int .i64 o2.c, .int .i64 o2.k, .int .i64 o2.h, .int .i64 o2.v, .int .i64 0, .bool false, .int .i64 0, .int .i64 0, .int .i64 0, .slice none 0 0] 62) = Wc at *
                  generalize Wb.heap.size = g6 at *
                  refine wpAnyH_ready (rs := [7]) (by kernel_rfl) (by simp) ?_
                  refine AllReadyH.cons rfl (fun K hK => ?_) AllReadyH.nil
                  refine step_tw rfl (.tmp 78) (.tmp 82) rfl wc (.slice ao1 z0.length lc1) Mh [⟨⟨(tn : Int), true, o2, zAd⟩, none, 0⟩] rfl T1.out (fun m hm => by rw [List.mem_singleton.1 hm]; exact Prs.nil _) _ rfl (src_ev B6.out) HL3.out (z0.length + 1) HL4.out ?_
                  intro ao2 lc2 We hm2 hc2 hT2 hO2 hK2
                  have T2 := Lib.hid hT2
                  clear hT2 hO2 hK2
                  refine hK.out _ _ ?_ (fun hNext => ?_)
                  · exact ⟨pkc T2.out.be r0, pkc T2.out.be r1, pkc T2.out.be r2, pkc T2.out.be r3, T2.out.be⟩
                  clear hK K hHeld
                  have hHeld := hNext
                  clear hNext
                  try simp only [List.getElem_toArray, List.getElem_cons_succ, List.getElem_cons_zero, Act.put, List.setIfInBounds_toArray, List.set_cons_zero, List.set_cons_succ]
                  refine wpAnyH_take (i := 8) (v := ?_) rfl (by kernel_rfl) (by kernel_rfl) (by kernel_rfl) (fun _ _ _ h => h) (Or.inl ⟨by rfl, ?_⟩) hHeld ?_
                  rotate_left
                  · (intro wS hSw; (try dsimp only at hSw); (try go_split_ands); go_simp; try with_reducible rfl)
                  try simp only [List.getElem_toArray, List.getElem_cons_succ, List.getElem_cons_zero, Act.put, List.setIfInBounds_toArray, List.set_cons_zero, List.set_cons_succ]
                  refine wpAnyH_done (by kernel_rfl) ?_ _
                  clear hHeld
                  go_wp2_with (fail)
                  go_meet
                  exact ⟨ao2, lc2, rfl, by have h := T2.out.es.2; rw [List.map_append, HMM.out] at h; exact h, T2.out.be⟩
                · go_simp
                  refine hK.out _ _ ?_ (fun hNext => ?_)
                  · exact ⟨pkc (pb2 HD.out (pal _)) r0, pkc (pb2 HD.out (pal _)) r1, pkc (pb2 HD.out (pal _)) r2, pkc (pb2 HD.out (pal _)) r3, (pb2 HD.out (pal _))⟩
                  clear hK K hHeld
                  have hHeld := hNext
                  clear hNext
                  try simp only [List.getElem_toArray, List.getElem_cons_succ, List.getElem_cons_zero, Act.put, List.setIfInBounds_toArray, List.set_cons_zero, List.set_cons_succ]
                  have B6 := Lib.hid (Bq.new Wa #[.int .i64 (tn : Int), .bool true, .int .i64 o2.c, .int .i64 o2.k, .int .i64 o2.h, .int .i64 o2.v, .int .i64 0, .bool false, .int .i64 0, .int .i64 0, .int .i64 0, .slice none 0 0] 62)
                  have hne2 : ¬ g0 = Wa.heap.size := by omega
                  replace T0 := Lib.hid (T0.out.keep (pal (.cells #[.int .i64 (tn : Int), .bool true, .int .i64 o2.c, .int .i64 o2.k, .int .i64 o2.h, .int .i64 o2.v, .int .i64 0, .bool false, .int .i64 0, .int .i64 0, .int .i64 0, .slice none 0 0] 62)))
                  replace HD := Lib.hid (pb2 HD.out (pal (.cells #[.int .i64 (tn : Int), .bool true, .int .i64 o2.c, .int .i64 o2.k, .int .i64 o2.h, .int .i64 o2.v, .int .i64 0, .bool false, .int .i64 0, .int .i64 0, .int .i64 0, .slice none 0 0] 62)))
                  generalize Wa.alloc (.cells #[.int .i64 (tn : Int), .bool true, .int .i64 o2.c, .int .i64 o2.k, .int .i64 o2.h, .int .i64 o2.v, .int .i64 0, .bool false, .int .i64 0, .int .i64 0, .int .i64 0, .slice none 0 0] 62) = Wb at *
                  generalize Wa.heap.size = g6 at *
                  refine wpAnyH_ready (rs := [2]) (by kernel_rfl) (by simp) ?_
                  refine AllReadyH.cons rfl (fun K hK => ?_) AllReadyH.nil
                  refine step_tw rfl (.tmp 76) (.tmp 77) rfl wc (.slice (some ⟨g0, 0, none⟩) 0 0) [] Mh rfl T0.out HPM.out _ rfl (HSR.out _ HD.out) HL1.out z0.length HL2.out ?_
                  intro ao1 lc1 Wc hm1 hc1 hT1 hO1 hK1
                  have T1 := Lib.hid hT1
                  replace B6 := Lib.hid (B6.out.only hO1 (fun x => hne2 (by simpa [Value.ownBlock] using x)))
                  clear hT1 hO1 hK1
                  refine hK.out _ _ ?_ (fun hNext => ?_)
                  · exact ⟨pkc T1.out.be r0, pkc T1.out.be r1, pkc T1.out.be r2, pkc T1.out.be r3, T1.out.be⟩
                  clear hK K hHeld
                  have hHeld := hNext
                  clear hNext
                  try simp only [List.getElem_toArray, List.getElem_cons_succ, List.getElem_cons_zero, Act.put, List.setIfInBounds_toArray, List.set_cons_zero, List.set_cons_succ]
                  refine wpAnyH_ready (rs := [7]) (by kernel_rfl) (by simp) ?_
                  refine AllReadyH.cons rfl (fun K hK => ?_) AllReadyH.nil
                  refine step_tw rfl (.tmp 78) (.tmp 82) rfl wc (.slice ao1 z0.length lc1) Mh [⟨⟨(tn : Int), true, o2, zAd⟩, none, 0⟩] rfl T1.out (fun m hm => by rw [List.mem_singleton.1 hm]; exact Prs.nil _) _ rfl (src_ev B6.out) HL3.out (z0.length + 1) HL4.out ?_
                  intro ao2 lc2 We hm2 hc2 hT2 hO2 hK2
                  have T2 := Lib.hid hT2
                  clear hT2 hO2 hK2
                  refine hK.out _ _ ?_ (fun hNext => ?_)
                  · exact ⟨pkc T2.out.be r0, pkc T2.out.be r1, pkc T2.out.be r2, pkc T2.out.be r3, T2.out.be⟩
                  clear hK K hHeld
                  have hHeld := hNext
                  clear hNext
                  try simp only [List.getElem_toArray, List.getElem_cons_succ, List.getElem_cons_zero, Act.put, List.setIfInBounds_toArray, List.set_cons_zero, List.set_cons_succ]
                  refine wpAnyH_take (i := 8) (v := ?_) rfl (by kernel_rfl) (by kernel_rfl) (by kernel_rfl) (fun _ _ _ h => h) (Or.inl ⟨by rfl, ?_⟩) hHeld ?_
                  rotate_left
                  · (intro wS hSw; (try dsimp only at hSw); (try go_split_ands); go_simp; try with_reducible rfl)
                  try simp only [List.getElem_toArray, List.getElem_cons_succ, List.getElem_cons_zero, Act.put, List.setIfInBounds_toArray, List.set_cons_zero, List.set_cons_succ]
                  refine wpAnyH_done (by kernel_rfl) ?_ _
                  clear hHeld
                  go_wp2_with (fail)
                  go_meet
                  exact ⟨ao2, lc2, rfl, by have h := T2.out.es.2; rw [List.map_append, HMM.out] at h; exact h, T2.out.be⟩
              · go_simp
                refine hK.out _ _ ?_ (fun hNext => ?_)
                · exact ⟨pkc (pb2 HD.out (pal _)) r0, pkc (pb2 HD.out (pal _)) r1, pkc (pb2 HD.out (pal _)) r2, pkc (pb2 HD.out (pal _)) r3, (pb2 HD.out (pal _))⟩
                clear hK K hHeld
                have hHeld := hNext
                clear hNext
                try simp only [List.getElem_toArray, List.getElem_cons_succ, List.getElem_cons_zero, Act.put, List.setIfInBounds_toArray, List.set_cons_zero, List.set_cons_succ]
                have B6 := Lib.hid (Bq.new Wd #[.int .i64 (tn : Int), .bool true, .int .i64 o2.c, .int .i64 o2.k, .int .i64 o2.h, .int .i64 o2.v, .int .i64 0, .bool false, .int .i64 0, .int .i64 0, .int .i64 0, .slice none 0 0] 62)
                replace HD := Lib.hid (pb2 HD.out (pal (.cells #[.int .i64 (tn : Int), .bool true, .int .i64 o2.c, .int .i64 o2.k, .int .i64 o2.h, .int .i64 o2.v, .int .i64 0, .bool false, .int .i64 0, .int .i64 0, .int .i64 0, .slice none 0 0] 62)))
                generalize Wd.alloc (.cells #[.int .i64 (tn : Int), .bool true, .int .i64 o2.c, .int .i64 o2.k, .int .i64 o2.h, .int .i64 o2.v, .int .i64 0, .bool false, .int .i64 0, .int .i64 0, .int .i64 0, .slice none 0 0] 62) = Wa at *
                generalize Wd.heap.size = g6 at *
                refine wpAnyH_ready (rs := [0]) (by kernel_rfl) (by simp) ?_
                refine AllReadyH.cons rfl (fun K hK => ?_) AllReadyH.nil
                go_simp
                refine hK.out _ _ ?_ (fun hNext => ?_)
                · exact ⟨pkc (pb2 HD.out (pal _)) r0, pkc (pb2 HD.out (pal _)) r1, pkc (pb2 HD.out (pal _)) r2, pkc (pb2 HD.out (pal _)) r3, (pb2 HD.out (pal _))⟩
                clear hK K hHeld
                have hHeld := hNext
                clear hNext
                try simp only [List.getElem_toArray, List.getElem_cons_succ, List.getElem_cons_zero, Act.put, List.setIfInBounds_toArray, List.set_cons_zero, List.set_cons_succ]
                have T0 := Lib.hid (TW.a0 HD.out)
                have hne := B6.out.lt
                have hne2 : ¬ Wa.heap.size = g6 := by omega
                clear hne
                replace B6 := Lib.hid (B6.out.keep (pal (.cells #[] 62)))
                replace HD := Lib.hid (pb2 HD.out (pal (.cells #[] 62)))
                have hgl : Wa.heap.size < (Wa.alloc (.cells #[] 62)).heap.size := by simp
                generalize Wa.alloc (.cells #[] 62) = Wb at *
                generalize Wa.heap.size = g0 at *
                refine wpAnyH_ready (rs := [2]) (by kernel_rfl) (by simp) ?_
                refine AllReadyH.cons rfl (fun K hK => ?_) AllReadyH.nil
                refine step_tw rfl (.tmp 76) (.tmp 77) rfl wc (.slice (some ⟨g0, 0, none⟩) 0 0) [] Mh rfl T0.out HPM.out _ rfl (HSR.out _ HD.out) HL1.out z0.length HL2.out ?_
                intro ao1 lc1 Wc hm1 hc1 hT1 hO1 hK1
                have T1 := Lib.hid hT1
                replace B6 := Lib.hid (B6.out.only hO1 (fun x => hne2 (by simpa [Value.ownBlock] using x)))
                clear hT1 hO1 hK1
                refine hK.out _ _ ?_ (fun hNext => ?_)
                · exact ⟨pkc T1.out.be r0, pkc T1.out.be r1, pkc T1.out.be r2, pkc T1.out.be r3, T1.out.be⟩
                clear hK K hHeld
                have hHeld := hNext
                clear hNext
                try simp only [List.getElem_toArray, List.getElem_cons_succ, List.getElem_cons_zero, Act.put, List.setIfInBounds_toArray, List.set_cons_zero, List.set_cons_succ]
                refine wpAnyH_ready (rs := [7]) (by kernel_rfl) (by simp) ?_
                refine AllReadyH.cons rfl (fun K hK => ?_) AllReadyH.nil
                refine step_tw rfl (.tmp 78) (.tmp 82) rfl wc (.slice ao1 z0.length lc1) Mh [⟨⟨(tn : Int), true, o2, zAd⟩, none, 0⟩] rfl T1.out (fun m hm => by rw [List.mem_singleton.1 hm]; exact Prs.nil _) _ rfl (src_ev B6.out) HL3.out (z0.length + 1) HL4.out ?_
                intro ao2 lc2 We hm2 hc2 hT2 hO2 hK2
                have T2 := Lib.hid hT2
                clear hT2 hO2 hK2
                refine hK.out _ _ ?_ (fun hNext => ?_)
                · exact ⟨pkc T2.out.be r0, pkc T2.out.be r1, pkc T2.out.be r2, pkc T2.out.be r3, T2.out.be⟩
                clear hK K hHeld
                have hHeld := hNext
                clear hNext
                try simp only [List.getElem_toArray, List.getElem_cons_succ, List.getElem_cons_zero, Act.put, List.setIfInBounds_toArray, List.set_cons_zero, List.set_cons_succ]
                refine wpAnyH_take (i := 8) (v := ?_) rfl (by kernel_rfl) (by kernel_rfl) (by kernel_rfl) (fun _ _ _ h => h) (Or.inl ⟨by rfl, ?_⟩) hHeld ?_
                rotate_left
                · (intro wS hSw; (try dsimp only at hSw); (try go_split_ands); go_simp; try with_reducible rfl)
                try simp only [List.getElem_toArray, List.getElem_cons_succ, List.getElem_cons_zero, Act.put, List.setIfInBounds_toArray, List.set_cons_zero, List.set_cons_succ]
                refine wpAnyH_done (by kernel_rfl) ?_ _
                clear hHeld
                go_wp2_with (fail)
                go_meet
                exact ⟨ao2, lc2, rfl, by have h := T2.out.es.2; rw [List.map_append, HMM.out] at h; exact h, T2.out.be⟩
            case rest =>
              obtain ⟨ao3, lc3, rfl, hE3, hB3⟩ := hcut
              have HBF := Lib.hid (pb2 HBD.out hB3)
              have HE1'' := Lib.hid (HE1'.out.keep hB3)
              have HE2' := Lib.hid (HE2.out.keep hB3)
              have HE3 := Lib.hid hE3
              have P2F := Lib.hid (P2D.out.keep hB3)
              clear hE3 hB3 HE1' HE2 P2D HSR HPM r0 r1 r2 r3 HBD
              have cm1 := fun W (hb : Below wc.heap.size wc W) => may_anyP ao1 lc1 (z0 ++ [⟨(tn : Int), false, o1, zAd⟩]) W (HE1''.out.keep hb) (by rw [hNe]; omega) false (by rw [HCC.out]; rfl)
              have cm2 := fun W (hb : Below wc.heap.size wc W) => may_anyP ao2 lc2 (z0 ++ [⟨(tn : Int), true, xo, zAd⟩]) W (HE2'.out.keep hb) (by rw [hNe]; omega) true (by rw [HR.out]; rfl)
              rw [hNe] at cm1 cm2
              have hRb := snoc_ret HM.out (t := (tn : Int)) (o := o2) (a := zAd) (okT_nat ht6)
              rw [HOP.out] at hRb
              have HRB := Lib.hid hRb
              clear hRb
              go_wp2_with (fail)
              obtain ⟨-, -, e2, e3, e4, e5, -⟩ := (HXW.out.keep HBF.out).ex
              dsimp only at e2 e3 e4 e5
              have r0 := P2F.out.at_ 0 _ rfl
              have r1 := P2F.out.at_ 1 _ rfl
              have r2 := P2F.out.at_ 2 _ rfl
              have r3 := P2F.out.at_ 3 _ rfl
              by_cases hf0 : o2.c = xo.c
              rotate_left
              · have hqq : (o2.c == xo.c) = false := by simpa using hf0
                have cm3 := fun W (hb : Below wc.heap.size wc W) => may_anyP ao3 lc3 (z0 ++ [⟨(tn : Int), true, o2, zAd⟩]) W (HE3.out.keep hb) (by rw [hNe]; omega) false (by rw [HRB.out, if_neg (fun x => hf0 (by rw [x.2]))]; rfl)
                rw [hNe] at cm3
                clear hf0
                refine wp_region_held_drew (S := fun W => W.cell? ⟨w.heap.size + 1, 0, none⟩ = some (.int .i64 o2.c) ∧ W.cell? ⟨w.heap.size + 1, 1, none⟩ = some (.int .i64 o2.k) ∧ W.cell? ⟨w.heap.size + 1, 2, none⟩ = some (.int .i64 o2.h) ∧ W.cell? ⟨w.heap.size + 1, 3, none⟩ = some (.int .i64 o2.v) ∧ W.cell? ⟨b, o + p * 12 + 2, none⟩ = some (.int .i64 xo.c) ∧ W.cell? ⟨b, o + p * 12 + 3, none⟩ = some (.int .i64 xo.k) ∧ W.cell? ⟨b, o + p * 12 + 4, none⟩ = some (.int .i64 xo.h) ∧ W.cell? ⟨b, o + p * 12 + 5, none⟩ = some (.int .i64 xo.v) ∧ Below wc.heap.size wc W) (by kernel_rfl) (by first | exact ⟨r0, r1, r2, r3, e2, e3, e4, e5, Below.refl _ _⟩ | exact ⟨r0, r1, r2, r3, e2, e3, e4, e5, (Below.refl _ _).drew⟩) (fun hHeld => ?_)
                refine wpAnyH_take (i := 0) (v := ?_) rfl (by kernel_rfl) (by kernel_rfl) (by kernel_rfl) (fun _ _ _ h => h) (Or.inl ⟨by rfl, ?_⟩) hHeld ?_
                rotate_left
                · (intro wS hSw; (try dsimp only at hSw); (try go_split_ands); go_simp; try with_reducible rfl)
                try simp only [List.getElem_toArray, List.getElem_cons_succ, List.getElem_cons_zero, Act.put, List.setIfInBounds_toArray, List.set_cons_zero, List.set_cons_succ]
                refine wpAnyH_ready (rs := [1]) (by kernel_rfl) (by simp) ?_
                refine AllReadyH.cons rfl (fun K hK => ?_) AllReadyH.nil
                go_simp
                (go_at_call 19; ((with_reducible refine (cm2 _ hHeld.2.2.2.2.2.2.2.2).mono ?_); rintro e Y ⟨rfl, hbY⟩))
                refine hK.out _ _ ?_ (fun hNext => ?_)
                · exact ⟨pkc hbY hHeld.1, pkc hbY hHeld.2.1, pkc hbY hHeld.2.2.1, pkc hbY hHeld.2.2.2.1, pkc hbY hHeld.2.2.2.2.1, pkc hbY hHeld.2.2.2.2.2.1, pkc hbY hHeld.2.2.2.2.2.2.1, pkc hbY hHeld.2.2.2.2.2.2.2.1, pb2 hHeld.2.2.2.2.2.2.2.2 hbY⟩
                clear hbY
                clear hK K hHeld
                have hHeld := hNext
                clear hNext
                try simp only [List.getElem_toArray, List.getElem_cons_succ, List.getElem_cons_zero, Act.put, List.setIfInBounds_toArray, List.set_cons_zero, List.set_cons_succ]
                refine wpAnyH_take (i := 2) (v := ?_) rfl (by kernel_rfl) (by kernel_rfl) (by kernel_rfl) (fun _ _ _ h => h) (Or.inl ⟨by rfl, ?_⟩) hHeld ?_
                rotate_left
                · (intro wS hSw; (try dsimp only at hSw); (try go_split_ands); go_simp; try with_reducible rfl)
                try simp only [List.getElem_toArray, List.getElem_cons_succ, List.getElem_cons_zero, Act.put, List.setIfInBounds_toArray, List.set_cons_zero, List.set_cons_succ]
                refine wpAnyH_take (i := 3) (v := ?_) rfl (by kernel_rfl) (by kernel_rfl) (by kernel_rfl) (fun _ _ _ h => h) (Or.inl ⟨by rfl, ?_⟩) hHeld ?_
                rotate_left
                · (intro wS hSw; (try dsimp only at hSw); (try go_split_ands); go_simp; try with_reducible rfl)
                try simp only [List.getElem_toArray, List.getElem_cons_succ, List.getElem_cons_zero, Act.put, List.setIfInBounds_toArray, List.set_cons_zero, List.set_cons_succ]
                refine wpAnyH_ready (rs := [4]) (by kernel_rfl) (by simp) ?_
                refine AllReadyH.cons rfl (fun K hK => ?_) AllReadyH.nil
                go_simp
                (go_at_call 19; ((with_reducible refine (cm1 _ hHeld.2.2.2.2.2.2.2.2).mono ?_); rintro e Y ⟨rfl, hbY⟩))
                refine hK.out _ _ ?_ (fun hNext => ?_)
                · exact ⟨pkc hbY hHeld.1, pkc hbY hHeld.2.1, pkc hbY hHeld.2.2.1, pkc hbY hHeld.2.2.2.1, pkc hbY hHeld.2.2.2.2.1, pkc hbY hHeld.2.2.2.2.2.1, pkc hbY hHeld.2.2.2.2.2.2.1, pkc hbY hHeld.2.2.2.2.2.2.2.1, pb2 hHeld.2.2.2.2.2.2.2.2 hbY⟩
                clear hbY
                clear hK K hHeld
                have hHeld := hNext
                clear hNext
                try simp only [List.getElem_toArray, List.getElem_cons_succ, List.getElem_cons_zero, Act.put, List.setIfInBounds_toArray, List.set_cons_zero, List.set_cons_succ]
                refine wpAnyH_take (i := 5) (v := ?_) rfl (by kernel_rfl) (by kernel_rfl) (by kernel_rfl) (fun _ _ _ h => h) (Or.inl ⟨by rfl, ?_⟩) hHeld ?_
                rotate_left
                · (intro wS hSw; (try dsimp only at hSw); (try go_split_ands); go_simp; try with_reducible rfl)
                try simp only [List.getElem_toArray, List.getElem_cons_succ, List.getElem_cons_zero, Act.put, List.setIfInBounds_toArray, List.set_cons_zero, List.set_cons_succ]
                refine wpAnyH_take (i := 6) (v := ?_) rfl (by kernel_rfl) (by kernel_rfl) (by kernel_rfl) (fun _ _ _ h => h) (Or.inl ⟨by rfl, ?_⟩) hHeld ?_
                rotate_left
                · (intro wS hSw; (try dsimp only at hSw); (try go_split_ands); go_simp; try with_reducible rfl)
                try simp only [List.getElem_toArray, List.getElem_cons_succ, List.getElem_cons_zero, Act.put, List.setIfInBounds_toArray, List.set_cons_zero, List.set_cons_succ]
                refine wpAnyH_take (i := 7) (v := ?_) rfl (by kernel_rfl) (by kernel_rfl) (by kernel_rfl) (fun _ _ _ h => h) (Or.inl ⟨by rfl, ?_⟩) hHeld ?_
                rotate_left
                · (intro wS hSw; (try dsimp only at hSw); (try go_split_ands); go_simp; try with_reducible rfl)
                try simp only [List.getElem_toArray, List.getElem_cons_succ, List.getElem_cons_zero, Act.put, List.setIfInBounds_toArray, List.set_cons_zero, List.set_cons_succ]
                refine wpAnyH_take (i := 8) (v := ?_) rfl (by kernel_rfl) (by kernel_rfl) (by kernel_rfl) (fun _ _ _ h => h) (Or.inl ⟨by rfl, ?_⟩) hHeld ?_
                rotate_left
                · (intro wS hSw; (try dsimp only at hSw); (try go_split_ands); go_simp; try with_reducible rfl)
                try simp only [List.getElem_toArray, List.getElem_cons_succ, List.getElem_cons_zero, Act.put, List.setIfInBounds_toArray, List.set_cons_zero, List.set_cons_succ]
                refine wpAnyH_take (i := 10) (v := ?_) rfl (by kernel_rfl) (by kernel_rfl) (by kernel_rfl) (fun _ _ _ h => h) (Or.inl ⟨by rfl, ?_⟩) hHeld ?_
                rotate_left
                · (intro wS hSw; (try dsimp only at hSw); (try go_split_ands); go_simp; try with_reducible rfl)
                try simp only [List.getElem_toArray, List.getElem_cons_succ, List.getElem_cons_zero, Act.put, List.setIfInBounds_toArray, List.set_cons_zero, List.set_cons_succ]
                refine wpAnyH_take (i := 11) (v := ?_) rfl (by kernel_rfl) (by kernel_rfl) (by kernel_rfl) (fun _ _ _ h => h) (Or.inl ⟨by rfl, ?_⟩) hHeld ?_
                rotate_left
                · (intro wS hSw; (try dsimp only at hSw); (try go_split_ands); go_simp; try with_reducible rfl)
                try simp only [List.getElem_toArray, List.getElem_cons_succ, List.getElem_cons_zero, Act.put, List.setIfInBounds_toArray, List.set_cons_zero, List.set_cons_succ]
                refine wpAnyH_take (i := 12) (v := ?_) rfl (by kernel_rfl) (by kernel_rfl) (by kernel_rfl) (fun _ _ _ h => h) (Or.inl ⟨by rfl, ?_⟩) hHeld ?_
                rotate_left
                · (intro wS hSw; (try dsimp only at hSw); (try go_split_ands); go_simp; try with_reducible rfl)
                try simp only [List.getElem_toArray, List.getElem_cons_succ, List.getElem_cons_zero, Act.put, List.setIfInBounds_toArray, List.set_cons_zero, List.set_cons_succ]
                refine wpAnyH_take (i := 13) (v := ?_) rfl (by kernel_rfl) (by kernel_rfl) (by kernel_rfl) (fun _ _ _ h => h) (Or.inl ⟨by rfl, ?_⟩) hHeld ?_
                rotate_left
                · (intro wS hSw; (try dsimp only at hSw); (try go_split_ands); go_simp; try with_reducible rfl)
                try simp only [List.getElem_toArray, List.getElem_cons_succ, List.getElem_cons_zero, Act.put, List.setIfInBounds_toArray, List.set_cons_zero, List.set_cons_succ]
                refine wpAnyH_take (i := 14) (v := ?_) rfl (by kernel_rfl) (by kernel_rfl) (by kernel_rfl) (fun _ _ _ h => h) (Or.inl ⟨by rfl, ?_⟩) hHeld ?_
                rotate_left
                · (intro wS hSw; (try dsimp only at hSw); (try go_split_ands); go_simp; try with_reducible rfl)
                try simp only [List.getElem_toArray, List.getElem_cons_succ, List.getElem_cons_zero, Act.put, List.setIfInBounds_toArray, List.set_cons_zero, List.set_cons_succ]
                refine wpAnyH_take (i := 15) (v := ?_) rfl (by kernel_rfl) (by kernel_rfl) (by kernel_rfl) (fun _ _ _ h => h) (Or.inl ⟨by rfl, ?_⟩) hHeld ?_
                rotate_left
                · (intro wS hSw; (try dsimp only at hSw); (try go_split_ands); go_simp; try with_reducible rfl)
                try simp only [List.getElem_toArray, List.getElem_cons_succ, List.getElem_cons_zero, Act.put, List.setIfInBounds_toArray, List.set_cons_zero, List.set_cons_succ]
                refine wpAnyH_take (i := 16) (v := ?_) rfl (by kernel_rfl) (by kernel_rfl) (by kernel_rfl) (fun _ _ _ h => h) (Or.inl ⟨by rfl, ?_⟩) hHeld ?_
                rotate_left
                · (intro wS hSw; (try dsimp only at hSw); (try go_split_ands); go_simp; try with_reducible rfl)
                try simp only [List.getElem_toArray, List.getElem_cons_succ, List.getElem_cons_zero, Act.put, List.setIfInBounds_toArray, List.set_cons_zero, List.set_cons_succ]
                refine wpAnyH_ready (rs := [9]) (by kernel_rfl) (by simp) ?_
                refine AllReadyH.cons rfl (fun K hK => ?_) AllReadyH.nil
                go_simp
                (go_at_call 19; ((with_reducible refine (cm3 _ hHeld.2.2.2.2.2.2.2.2).mono ?_); rintro e Y ⟨rfl, hbY⟩))
                refine hK.out _ _ ?_ (fun hNext => ?_)
                · exact ⟨pkc hbY hHeld.1, pkc hbY hHeld.2.1, pkc hbY hHeld.2.2.1, pkc hbY hHeld.2.2.2.1, pkc hbY hHeld.2.2.2.2.1, pkc hbY hHeld.2.2.2.2.2.1, pkc hbY hHeld.2.2.2.2.2.2.1, pkc hbY hHeld.2.2.2.2.2.2.2.1, pb2 hHeld.2.2.2.2.2.2.2.2 hbY⟩
                clear hbY
                clear hK K hHeld
                have hHeld := hNext
                clear hNext
                try simp only [List.getElem_toArray, List.getElem_cons_succ, List.getElem_cons_zero, Act.put, List.setIfInBounds_toArray, List.set_cons_zero, List.set_cons_succ]
                refine wpAnyH_take (i := 17) (v := ?_) rfl (by kernel_rfl) (by kernel_rfl) (by kernel_rfl) (fun _ _ _ h => h) (Or.inl ⟨by rfl, ?_⟩) hHeld ?_
                rotate_left
                · (intro wS hSw; (try dsimp only at hSw); (try go_split_ands); go_simp; try with_reducible rfl)
                try simp only [List.getElem_toArray, List.getElem_cons_succ, List.getElem_cons_zero, Act.put, List.setIfInBounds_toArray, List.set_cons_zero, List.set_cons_succ]
                refine wpAnyH_take (i := 18) (v := ?_) rfl (by kernel_rfl) (by kernel_rfl) (by kernel_rfl) (fun _ _ _ h => h) (Or.inl ⟨by rfl, ?_⟩) hHeld ?_
                rotate_left
                · (intro wS hSw; (try dsimp only at hSw); (try go_split_ands); go_simp; try with_reducible rfl)
                try simp only [List.getElem_toArray, List.getElem_cons_succ, List.getElem_cons_zero, Act.put, List.setIfInBounds_toArray, List.set_cons_zero, List.set_cons_succ]
                refine wpAnyH_take (i := 19) (v := ?_) rfl (by kernel_rfl) (by kernel_rfl) (by kernel_rfl) (fun _ _ _ h => h) (Or.inl ⟨by rfl, ?_⟩) hHeld ?_
                rotate_left
                · (intro wS hSw; (try dsimp only at hSw); (try go_split_ands); go_simp; try with_reducible rfl)
                try simp only [List.getElem_toArray, List.getElem_cons_succ, List.getElem_cons_zero, Act.put, List.setIfInBounds_toArray, List.set_cons_zero, List.set_cons_succ]
                refine wpAnyH_ready (rs := [20]) (by kernel_rfl) (by simp) ?_
                refine AllReadyH.cons rfl (fun K hK => ?_) AllReadyH.nil
                go_simp
                (go_at_call 21; ((with_reducible refine (ca _ (pb2 HBF.out hHeld.2.2.2.2.2.2.2.2)).mono ?_); rintro e Y ⟨rfl, hbY⟩))
                refine hK.out _ _ ?_ (fun hNext => ?_)
                · exact ⟨pkc hbY hHeld.1, pkc hbY hHeld.2.1, pkc hbY hHeld.2.2.1, pkc hbY hHeld.2.2.2.1, pkc hbY hHeld.2.2.2.2.1, pkc hbY hHeld.2.2.2.2.2.1, pkc hbY hHeld.2.2.2.2.2.2.1, pkc hbY hHeld.2.2.2.2.2.2.2.1, pb2 hHeld.2.2.2.2.2.2.2.2 hbY⟩
                clear hbY
                clear hK K hHeld
                have hHeld := hNext
                clear hNext
                try simp only [List.getElem_toArray, List.getElem_cons_succ, List.getElem_cons_zero, Act.put, List.setIfInBounds_toArray, List.set_cons_zero, List.set_cons_succ]
                refine wpAnyH_take (i := 21) (v := ?_) rfl (by kernel_rfl) (by kernel_rfl) (by kernel_rfl) (fun _ _ _ h => h) (Or.inl ⟨by rfl, ?_⟩) hHeld ?_
                rotate_left
                · (intro wS hSw; (try dsimp only at hSw); (try go_split_ands); go_simp; try with_reducible rfl)
                try simp only [List.getElem_toArray, List.getElem_cons_succ, List.getElem_cons_zero, Act.put, List.setIfInBounds_toArray, List.set_cons_zero, List.set_cons_succ]
                refine wpAnyH_take (i := 22) (v := ?_) rfl (by kernel_rfl) (by kernel_rfl) (by kernel_rfl) (fun _ _ _ h => h) (Or.inl ⟨by rfl, ?_⟩) hHeld ?_
                rotate_left
                · (intro wS hSw; (try dsimp only at hSw); (try go_split_ands); go_simp; try with_reducible rfl)
                try simp only [List.getElem_toArray, List.getElem_cons_succ, List.getElem_cons_zero, Act.put, List.setIfInBounds_toArray, List.set_cons_zero, List.set_cons_succ]
                refine wpAnyH_done (by kernel_rfl) ?_ _
                have HX := Lib.hid hHeld.2.2.2.2.2.2.2.2
                clear hHeld
                go_wp2_with (fail)
                go_ret
                exact ⟨by simp, pb2 HBF.out HX.out⟩
              rw [hf0] at r0
              by_cases hf1 : o2.k = xo.k
              rotate_left
              · have hqq : (o2.k == xo.k) = false := by simpa using hf1
                have cm3 := fun W (hb : Below wc.heap.size wc W) => may_anyP ao3 lc3 (z0 ++ [⟨(tn : Int), true, o2, zAd⟩]) W (HE3.out.keep hb) (by rw [hNe]; omega) false (by rw [HRB.out, if_neg (fun x => hf1 (by rw [x.2]))]; rfl)
                rw [hNe] at cm3
                clear hf1
                refine wp_region_held_drew (S := fun W => W.cell? ⟨w.heap.size + 1, 0, none⟩ = some (.int .i64 xo.c) ∧ W.cell? ⟨w.heap.size + 1, 1, none⟩ = some (.int .i64 o2.k) ∧ W.cell? ⟨w.heap.size + 1, 2, none⟩ = some (.int .i64 o2.h) ∧ W.cell? ⟨w.heap.size + 1, 3, none⟩ = some (.int .i64 o2.v) ∧ W.cell? ⟨b, o + p * 12 + 2, none⟩ = some (.int .i64 xo.c) ∧ W.cell? ⟨b, o + p * 12 + 3, none⟩ = some (.int .i64 xo.k) ∧ W.cell? ⟨b, o + p * 12 + 4, none⟩ = some (.int .i64 xo.h) ∧ W.cell? ⟨b, o + p * 12 + 5, none⟩ = some (.int .i64 xo.v) ∧ Below wc.heap.size wc W) (by kernel_rfl) (by first | exact ⟨r0, r1, r2, r3, e2, e3, e4, e5, Below.refl _ _⟩ | exact ⟨r0, r1, r2, r3, e2, e3, e4, e5, (Below.refl _ _).drew⟩) (fun hHeld => ?_)
                refine wpAnyH_take (i := 0) (v := ?_) rfl (by kernel_rfl) (by kernel_rfl) (by kernel_rfl) (fun _ _ _ h => h) (Or.inl ⟨by rfl, ?_⟩) hHeld ?_
                rotate_left
                · (intro wS hSw; (try dsimp only at hSw); (try go_split_ands); go_simp; try with_reducible rfl)
                try simp only [List.getElem_toArray, List.getElem_cons_succ, List.getElem_cons_zero, Act.put, List.setIfInBounds_toArray, List.set_cons_zero, List.set_cons_succ]
                refine wpAnyH_ready (rs := [1]) (by kernel_rfl) (by simp) ?_
                refine AllReadyH.cons rfl (fun K hK => ?_) AllReadyH.nil
                go_simp
                (go_at_call 19; ((with_reducible refine (cm2 _ hHeld.2.2.2.2.2.2.2.2).mono ?_); rintro e Y ⟨rfl, hbY⟩))
                refine hK.out _ _ ?_ (fun hNext => ?_)
                · exact ⟨pkc hbY hHeld.1, pkc hbY hHeld.2.1, pkc hbY hHeld.2.2.1, pkc hbY hHeld.2.2.2.1, pkc hbY hHeld.2.2.2.2.1, pkc hbY hHeld.2.2.2.2.2.1, pkc hbY hHeld.2.2.2.2.2.2.1, pkc hbY hHeld.2.2.2.2.2.2.2.1, pb2 hHeld.2.2.2.2.2.2.2.2 hbY⟩
                clear hbY
                clear hK K hHeld
                have hHeld := hNext
                clear hNext
                try simp only [List.getElem_toArray, List.getElem_cons_succ, List.getElem_cons_zero, Act.put, List.setIfInBounds_toArray, List.set_cons_zero, List.set_cons_succ]
                refine wpAnyH_take (i := 2) (v := ?_) rfl (by kernel_rfl) (by kernel_rfl) (by kernel_rfl) (fun _ _ _ h => h) (Or.inl ⟨by rfl, ?_⟩) hHeld ?_
                rotate_left
                · (intro wS hSw; (try dsimp only at hSw); (try go_split_ands); go_simp; try with_reducible rfl)
                try simp only [List.getElem_toArray, List.getElem_cons_succ, List.getElem_cons_zero, Act.put, List.setIfInBounds_toArray, List.set_cons_zero, List.set_cons_succ]
                refine wpAnyH_take (i := 3) (v := ?_) rfl (by kernel_rfl) (by kernel_rfl) (by kernel_rfl) (fun _ _ _ h => h) (Or.inl ⟨by rfl, ?_⟩) hHeld ?_
                rotate_left
                · (intro wS hSw; (try dsimp only at hSw); (try go_split_ands); go_simp; try with_reducible rfl)
                try simp only [List.getElem_toArray, List.getElem_cons_succ, List.getElem_cons_zero, Act.put, List.setIfInBounds_toArray, List.set_cons_zero, List.set_cons_succ]
                refine wpAnyH_ready (rs := [4]) (by kernel_rfl) (by simp) ?_
                refine AllReadyH.cons rfl (fun K hK => ?_) AllReadyH.nil
                go_simp
                (go_at_call 19; ((with_reducible refine (cm1 _ hHeld.2.2.2.2.2.2.2.2).mono ?_); rintro e Y ⟨rfl, hbY⟩))
                refine hK.out _ _ ?_ (fun hNext => ?_)
                · exact ⟨pkc hbY hHeld.1, pkc hbY hHeld.2.1, pkc hbY hHeld.2.2.1, pkc hbY hHeld.2.2.2.1, pkc hbY hHeld.2.2.2.2.1, pkc hbY hHeld.2.2.2.2.2.1, pkc hbY hHeld.2.2.2.2.2.2.1, pkc hbY hHeld.2.2.2.2.2.2.2.1, pb2 hHeld.2.2.2.2.2.2.2.2 hbY⟩
                clear hbY
                clear hK K hHeld
                have hHeld := hNext
                clear hNext
                try simp only [List.getElem_toArray, List.getElem_cons_succ, List.getElem_cons_zero, Act.put, List.setIfInBounds_toArray, List.set_cons_zero, List.set_cons_succ]
                refine wpAnyH_take (i := 5) (v := ?_) rfl (by kernel_rfl) (by kernel_rfl) (by kernel_rfl) (fun _ _ _ h => h) (Or.inl ⟨by rfl, ?_⟩) hHeld ?_
                rotate_left
                · (intro wS hSw; (try dsimp only at hSw); (try go_split_ands); go_simp; try with_reducible rfl)
                try simp only [List.getElem_toArray, List.getElem_cons_succ, List.getElem_cons_zero, Act.put, List.setIfInBounds_toArray, List.set_cons_zero, List.set_cons_succ]
                refine wpAnyH_take (i := 6) (v := ?_) rfl (by kernel_rfl) (by kernel_rfl) (by kernel_rfl) (fun _ _ _ h => h) (Or.inl ⟨by rfl, ?_⟩) hHeld ?_
                rotate_left
                · (intro wS hSw; (try dsimp only at hSw); (try go_split_ands); go_simp; try with_reducible rfl)
                try simp only [List.getElem_toArray, List.getElem_cons_succ, List.getElem_cons_zero, Act.put, List.setIfInBounds_toArray, List.set_cons_zero, List.set_cons_succ]
                refine wpAnyH_take (i := 7) (v := ?_) rfl (by kernel_rfl) (by kernel_rfl) (by kernel_rfl) (fun _ _ _ h => h) (Or.inl ⟨by rfl, ?_⟩) hHeld ?_
                rotate_left
                · (intro wS hSw; (try dsimp only at hSw); (try go_split_ands); go_simp; try with_reducible rfl)
                try simp only [List.getElem_toArray, List.getElem_cons_succ, List.getElem_cons_zero, Act.put, List.setIfInBounds_toArray, List.set_cons_zero, List.set_cons_succ]
                refine wpAnyH_take (i := 8) (v := ?_) rfl (by kernel_rfl) (by kernel_rfl) (by kernel_rfl) (fun _ _ _ h => h) (Or.inl ⟨by rfl, ?_⟩) hHeld ?_
                rotate_left
                · (intro wS hSw; (try dsimp only at hSw); (try go_split_ands); go_simp; try with_reducible rfl)
                try simp only [List.getElem_toArray, List.getElem_cons_succ, List.getElem_cons_zero, Act.put, List.setIfInBounds_toArray, List.set_cons_zero, List.set_cons_succ]
                refine wpAnyH_take (i := 10) (v := ?_) rfl (by kernel_rfl) (by kernel_rfl) (by kernel_rfl) (fun _ _ _ h => h) (Or.inl ⟨by rfl, ?_⟩) hHeld ?_
                rotate_left
                · (intro wS hSw; (try dsimp only at hSw); (try go_split_ands); go_simp; try with_reducible rfl)
                try simp only [List.getElem_toArray, List.getElem_cons_succ, List.getElem_cons_zero, Act.put, List.setIfInBounds_toArray, List.set_cons_zero, List.set_cons_succ]
                refine wpAnyH_take (i := 11) (v := ?_) rfl (by kernel_rfl) (by kernel_rfl) (by kernel_rfl) (fun _ _ _ h => h) (Or.inl ⟨by rfl, ?_⟩) hHeld ?_
                rotate_left
                · (intro wS hSw; (try dsimp only at hSw); (try go_split_ands); go_simp; try with_reducible rfl)
                try simp only [List.getElem_toArray, List.getElem_cons_succ, List.getElem_cons_zero, Act.put, List.setIfInBounds_toArray, List.set_cons_zero, List.set_cons_succ]
                refine wpAnyH_take (i := 12) (v := ?_) rfl (by kernel_rfl) (by kernel_rfl) (by kernel_rfl) (fun _ _ _ h => h) (Or.inl ⟨by rfl, ?_⟩) hHeld ?_
                rotate_left
                · (intro wS hSw; (try dsimp only at hSw); (try go_split_ands); go_simp; try with_reducible rfl)
                try simp only [List.getElem_toArray, List.getElem_cons_succ, List.getElem_cons_zero, Act.put, List.setIfInBounds_toArray, List.set_cons_zero, List.set_cons_succ]
                refine wpAnyH_take (i := 13) (v := ?_) rfl (by kernel_rfl) (by kernel_rfl) (by kernel_rfl) (fun _ _ _ h => h) (Or.inl ⟨by rfl, ?_⟩) hHeld ?_
                rotate_left
                · (intro wS hSw; (try dsimp only at hSw); (try go_split_ands); go_simp; try with_reducible rfl)
                try simp only [List.getElem_toArray, List.getElem_cons_succ, List.getElem_cons_zero, Act.put, List.setIfInBounds_toArray, List.set_cons_zero, List.set_cons_succ]
                refine wpAnyH_take (i := 14) (v := ?_) rfl (by kernel_rfl) (by kernel_rfl) (by kernel_rfl) (fun _ _ _ h => h) (Or.inl ⟨by rfl, ?_⟩) hHeld ?_
                rotate_left
                · (intro wS hSw; (try dsimp only at hSw); (try go_split_ands); go_simp; try with_reducible rfl)
                try simp only [List.getElem_toArray, List.getElem_cons_succ, List.getElem_cons_zero, Act.put, List.setIfInBounds_toArray, List.set_cons_zero, List.set_cons_succ]
                refine wpAnyH_take (i := 15) (v := ?_) rfl (by kernel_rfl) (by kernel_rfl) (by kernel_rfl) (fun _ _ _ h => h) (Or.inl ⟨by rfl, ?_⟩) hHeld ?_
                rotate_left
                · (intro wS hSw; (try dsimp only at hSw); (try go_split_ands); go_simp; try with_reducible rfl)
                try simp only [List.getElem_toArray, List.getElem_cons_succ, List.getElem_cons_zero, Act.put, List.setIfInBounds_toArray, List.set_cons_zero, List.set_cons_succ]
                refine wpAnyH_take (i := 16) (v := ?_) rfl (by kernel_rfl) (by kernel_rfl) (by kernel_rfl) (fun _ _ _ h => h) (Or.inl ⟨by rfl, ?_⟩) hHeld ?_
                rotate_left
                · (intro wS hSw; (try dsimp only at hSw); (try go_split_ands); go_simp; try with_reducible rfl)
                try simp only [List.getElem_toArray, List.getElem_cons_succ, List.getElem_cons_zero, Act.put, List.setIfInBounds_toArray, List.set_cons_zero, List.set_cons_succ]
                refine wpAnyH_ready (rs := [9]) (by kernel_rfl) (by simp) ?_
                refine AllReadyH.cons rfl (fun K hK => ?_) AllReadyH.nil
                go_simp
                (go_at_call 19; ((with_reducible refine (cm3 _ hHeld.2.2.2.2.2.2.2.2).mono ?_); rintro e Y ⟨rfl, hbY⟩))
                refine hK.out _ _ ?_ (fun hNext => ?_)
                · exact ⟨pkc hbY hHeld.1, pkc hbY hHeld.2.1, pkc hbY hHeld.2.2.1, pkc hbY hHeld.2.2.2.1, pkc hbY hHeld.2.2.2.2.1, pkc hbY hHeld.2.2.2.2.2.1, pkc hbY hHeld.2.2.2.2.2.2.1, pkc hbY hHeld.2.2.2.2.2.2.2.1, pb2 hHeld.2.2.2.2.2.2.2.2 hbY⟩
                clear hbY
                clear hK K hHeld
                have hHeld := hNext
                clear hNext
                try simp only [List.getElem_toArray, List.getElem_cons_succ, List.getElem_cons_zero, Act.put, List.setIfInBounds_toArray, List.set_cons_zero, List.set_cons_succ]
                refine wpAnyH_take (i := 17) (v := ?_) rfl (by kernel_rfl) (by kernel_rfl) (by kernel_rfl) (fun _ _ _ h => h) (Or.inl ⟨by rfl, ?_⟩) hHeld ?_
                rotate_left
                · (intro wS hSw; (try dsimp only at hSw); (try go_split_ands); go_simp; try with_reducible rfl)
                try simp only [List.getElem_toArray, List.getElem_cons_succ, List.getElem_cons_zero, Act.put, List.setIfInBounds_toArray, List.set_cons_zero, List.set_cons_succ]
                refine wpAnyH_take (i := 18) (v := ?_) rfl (by kernel_rfl) (by kernel_rfl) (by kernel_rfl) (fun _ _ _ h => h) (Or.inl ⟨by rfl, ?_⟩) hHeld ?_
                rotate_left
                · (intro wS hSw; (try dsimp only at hSw); (try go_split_ands); go_simp; try with_reducible rfl)
                try simp only [List.getElem_toArray, List.getElem_cons_succ, List.getElem_cons_zero, Act.put, List.setIfInBounds_toArray, List.set_cons_zero, List.set_cons_succ]
                refine wpAnyH_take (i := 19) (v := ?_) rfl (by kernel_rfl) (by kernel_rfl) (by kernel_rfl) (fun _ _ _ h => h) (Or.inl ⟨by rfl, ?_⟩) hHeld ?_
                rotate_left
                · (intro wS hSw; (try dsimp only at hSw); (try go_split_ands); go_simp; try with_reducible rfl)
                try simp only [List.getElem_toArray, List.getElem_cons_succ, List.getElem_cons_zero, Act.put, List.setIfInBounds_toArray, List.set_cons_zero, List.set_cons_succ]
                refine wpAnyH_ready (rs := [20]) (by kernel_rfl) (by simp) ?_
                refine AllReadyH.cons rfl (fun K hK => ?_) AllReadyH.nil
                go_simp
                (go_at_call 21; ((with_reducible refine (ca _ (pb2 HBF.out hHeld.2.2.2.2.2.2.2.2)).mono ?_); rintro e Y ⟨rfl, hbY⟩))
                refine hK.out _ _ ?_ (fun hNext => ?_)
                · exact ⟨pkc hbY hHeld.1, pkc hbY hHeld.2.1, pkc hbY hHeld.2.2.1, pkc hbY hHeld.2.2.2.1, pkc hbY hHeld.2.2.2.2.1, pkc hbY hHeld.2.2.2.2.2.1, pkc hbY hHeld.2.2.2.2.2.2.1, pkc hbY hHeld.2.2.2.2.2.2.2.1, pb2 hHeld.2.2.2.2.2.2.2.2 hbY⟩
                clear hbY
                clear hK K hHeld
                have hHeld := hNext
                clear hNext
                try simp only [List.getElem_toArray, List.getElem_cons_succ, List.getElem_cons_zero, Act.put, List.setIfInBounds_toArray, List.set_cons_zero, List.set_cons_succ]
                refine wpAnyH_take (i := 21) (v := ?_) rfl (by kernel_rfl) (by kernel_rfl) (by kernel_rfl) (fun _ _ _ h => h) (Or.inl ⟨by rfl, ?_⟩) hHeld ?_
                rotate_left
                · (intro wS hSw; (try dsimp only at hSw); (try go_split_ands); go_simp; try with_reducible rfl)
                try simp only [List.getElem_toArray, List.getElem_cons_succ, List.getElem_cons_zero, Act.put, List.setIfInBounds_toArray, List.set_cons_zero, List.set_cons_succ]
                refine wpAnyH_take (i := 22) (v := ?_) rfl (by kernel_rfl) (by kernel_rfl) (by kernel_rfl) (fun _ _ _ h => h) (Or.inl ⟨by rfl, ?_⟩) hHeld ?_
                rotate_left
                · (intro wS hSw; (try dsimp only at hSw); (try go_split_ands); go_simp; try with_reducible rfl)
                try simp only [List.getElem_toArray, List.getElem_cons_succ, List.getElem_cons_zero, Act.put, List.setIfInBounds_toArray, List.set_cons_zero, List.set_cons_succ]
                refine wpAnyH_done (by kernel_rfl) ?_ _
                have HX := Lib.hid hHeld.2.2.2.2.2.2.2.2
                clear hHeld
                go_wp2_with (fail)
                go_ret
                exact ⟨by simp, pb2 HBF.out HX.out⟩
              rw [hf1] at r1
              by_cases hf2 : o2.h = xo.h
              rotate_left
              · have hqq : (o2.h == xo.h) = false := by simpa using hf2
                have cm3 := fun W (hb : Below wc.heap.size wc W) => may_anyP ao3 lc3 (z0 ++ [⟨(tn : Int), true, o2, zAd⟩]) W (HE3.out.keep hb) (by rw [hNe]; omega) false (by rw [HRB.out, if_neg (fun x => hf2 (by rw [x.2]))]; rfl)
                rw [hNe] at cm3
                clear hf2
                refine wp_region_held_drew (S := fun W => W.cell? ⟨w.heap.size + 1, 0, none⟩ = some (.int .i64 xo.c) ∧ W.cell? ⟨w.heap.size + 1, 1, none⟩ = some (.int .i64 xo.k) ∧ W.cell? ⟨w.heap.size + 1, 2, none⟩ = some (.int .i64 o2.h) ∧ W.cell? ⟨w.heap.size + 1, 3, none⟩ = some (.int .i64 o2.v) ∧ W.cell? ⟨b, o + p * 12 + 2, none⟩ = some (.int .i64 xo.c) ∧ W.cell? ⟨b, o + p * 12 + 3, none⟩ = some (.int .i64 xo.k) ∧ W.cell? ⟨b, o + p * 12 + 4, none⟩ = some (.int .i64 xo.h) ∧ W.cell? ⟨b, o + p * 12 + 5, none⟩ = some (.int .i64 xo.v) ∧ Below wc.heap.size wc W) (by kernel_rfl) (by first | exact ⟨r0, r1, r2, r3, e2, e3, e4, e5, Below.refl _ _⟩ | exact ⟨r0, r1, r2, r3, e2, e3, e4, e5, (Below.refl _ _).drew⟩) (fun hHeld => ?_)
                refine wpAnyH_take (i := 0) (v := ?_) rfl (by kernel_rfl) (by kernel_rfl) (by kernel_rfl) (fun _ _ _ h => h) (Or.inl ⟨by rfl, ?_⟩) hHeld ?_
                rotate_left
                · (intro wS hSw; (try dsimp only at hSw); (try go_split_ands); go_simp; try with_reducible rfl)
                try simp only [List.getElem_toArray, List.getElem_cons_succ, List.getElem_cons_zero, Act.put, List.setIfInBounds_toArray, List.set_cons_zero, List.set_cons_succ]
                refine wpAnyH_ready (rs := [1]) (by kernel_rfl) (by simp) ?_
                refine AllReadyH.cons rfl (fun K hK => ?_) AllReadyH.nil
                go_simp
                (go_at_call 19; ((with_reducible refine (cm2 _ hHeld.2.2.2.2.2.2.2.2).mono ?_); rintro e Y ⟨rfl, hbY⟩))
                refine hK.out _ _ ?_ (fun hNext => ?_)
                · exact ⟨pkc hbY hHeld.1, pkc hbY hHeld.2.1, pkc hbY hHeld.2.2.1, pkc hbY hHeld.2.2.2.1, pkc hbY hHeld.2.2.2.2.1, pkc hbY hHeld.2.2.2.2.2.1, pkc hbY hHeld.2.2.2.2.2.2.1, pkc hbY hHeld.2.2.2.2.2.2.2.1, pb2 hHeld.2.2.2.2.2.2.2.2 hbY⟩
                clear hbY
                clear hK K hHeld
                have hHeld := hNext
                clear hNext
                try simp only [List.getElem_toArray, List.getElem_cons_succ, List.getElem_cons_zero, Act.put, List.setIfInBounds_toArray, List.set_cons_zero, List.set_cons_succ]
                refine wpAnyH_take (i := 2) (v := ?_) rfl (by kernel_rfl) (by kernel_rfl) (by kernel_rfl) (fun _ _ _ h => h) (Or.inl ⟨by rfl, ?_⟩) hHeld ?_
                rotate_left
                · (intro wS hSw; (try dsimp only at hSw); (try go_split_ands); go_simp; try with_reducible rfl)
                try simp only [List.getElem_toArray, List.getElem_cons_succ, List.getElem_cons_zero, Act.put, List.setIfInBounds_toArray, List.set_cons_zero, List.set_cons_succ]
                refine wpAnyH_take (i := 3) (v := ?_) rfl (by kernel_rfl) (by kernel_rfl) (by kernel_rfl) (fun _ _ _ h => h) (Or.inl ⟨by rfl, ?_⟩) hHeld ?_
                rotate_left
                · (intro wS hSw; (try dsimp only at hSw); (try go_split_ands); go_simp; try with_reducible rfl)
                try simp only [List.getElem_toArray, List.getElem_cons_succ, List.getElem_cons_zero, Act.put, List.setIfInBounds_toArray, List.set_cons_zero, List.set_cons_succ]
                refine wpAnyH_ready (rs := [4]) (by kernel_rfl) (by simp) ?_
                refine AllReadyH.cons rfl (fun K hK => ?_) AllReadyH.nil
                go_simp
                (go_at_call 19; ((with_reducible refine (cm1 _ hHeld.2.2.2.2.2.2.2.2).mono ?_); rintro e Y ⟨rfl, hbY⟩))
                refine hK.out _ _ ?_ (fun hNext => ?_)
                · exact ⟨pkc hbY hHeld.1, pkc hbY hHeld.2.1, pkc hbY hHeld.2.2.1, pkc hbY hHeld.2.2.2.1, pkc hbY hHeld.2.2.2.2.1, pkc hbY hHeld.2.2.2.2.2.1, pkc hbY hHeld.2.2.2.2.2.2.1, pkc hbY hHeld.2.2.2.2.2.2.2.1, pb2 hHeld.2.2.2.2.2.2.2.2 hbY⟩
                clear hbY
                clear hK K hHeld
                have hHeld := hNext
                clear hNext
                try simp only [List.getElem_toArray, List.getElem_cons_succ, List.getElem_cons_zero, Act.put, List.setIfInBounds_toArray, List.set_cons_zero, List.set_cons_succ]
                refine wpAnyH_take (i := 5) (v := ?_) rfl (by kernel_rfl) (by kernel_rfl) (by kernel_rfl) (fun _ _ _ h => h) (Or.inl ⟨by rfl, ?_⟩) hHeld ?_
                rotate_left
                · (intro wS hSw; (try dsimp only at hSw); (try go_split_ands); go_simp; try with_reducible rfl)
                try simp only [List.getElem_toArray, List.getElem_cons_succ, List.getElem_cons_zero, Act.put, List.setIfInBounds_toArray, List.set_cons_zero, List.set_cons_succ]
                refine wpAnyH_take (i := 6) (v := ?_) rfl (by kernel_rfl) (by kernel_rfl) (by kernel_rfl) (fun _ _ _ h => h) (Or.inl ⟨by rfl, ?_⟩) hHeld ?_
                rotate_left
                · (intro wS hSw; (try dsimp only at hSw); (try go_split_ands); go_simp; try with_reducible rfl)
                try simp only [List.getElem_toArray, List.getElem_cons_succ, List.getElem_cons_zero, Act.put, List.setIfInBounds_toArray, List.set_cons_zero, List.set_cons_succ]
                refine wpAnyH_take (i := 7) (v := ?_) rfl (by kernel_rfl) (by kernel_rfl) (by kernel_rfl) (fun _ _ _ h => h) (Or.inl ⟨by rfl, ?_⟩) hHeld ?_
                rotate_left
                · (intro wS hSw; (try dsimp only at hSw); (try go_split_ands); go_simp; try with_reducible rfl)
                try simp only [List.getElem_toArray, List.getElem_cons_succ, List.getElem_cons_zero, Act.put, List.setIfInBounds_toArray, List.set_cons_zero, List.set_cons_succ]
                refine wpAnyH_take (i := 8) (v := ?_) rfl (by kernel_rfl) (by kernel_rfl) (by kernel_rfl) (fun _ _ _ h => h) (Or.inl ⟨by rfl, ?_⟩) hHeld ?_
                rotate_left
                · (intro wS hSw; (try dsimp only at hSw); (try go_split_ands); go_simp; try with_reducible rfl)
                try simp only [List.getElem_toArray, List.getElem_cons_succ, List.getElem_cons_zero, Act.put, List.setIfInBounds_toArray, List.set_cons_zero, List.set_cons_succ]
                refine wpAnyH_take (i := 10) (v := ?_) rfl (by kernel_rfl) (by kernel_rfl) (by kernel_rfl) (fun _ _ _ h => h) (Or.inl ⟨by rfl, ?_⟩) hHeld ?_
                rotate_left
                · (intro wS hSw; (try dsimp only at hSw); (try go_split_ands); go_simp; try with_reducible rfl)
                try simp only [List.getElem_toArray, List.getElem_cons_succ, List.getElem_cons_zero, Act.put, List.setIfInBounds_toArray, List.set_cons_zero, List.set_cons_succ]
                refine wpAnyH_take (i := 11) (v := ?_) rfl (by kernel_rfl) (by kernel_rfl) (by kernel_rfl) (fun _ _ _ h => h) (Or.inl ⟨by rfl, ?_⟩) hHeld ?_
                rotate_left
                · (intro wS hSw; (try dsimp only at hSw); (try go_split_ands); go_simp; try with_reducible rfl)
                try simp only [List.getElem_toArray, List.getElem_cons_succ, List.getElem_cons_zero, Act.put, List.setIfInBounds_toArray, List.set_cons_zero, List.set_cons_succ]
                refine wpAnyH_take (i := 12) (v := ?_) rfl (by kernel_rfl) (by kernel_rfl) (by kernel_rfl) (fun _ _ _ h => h) (Or.inl ⟨by rfl, ?_⟩) hHeld ?_
                rotate_left
                · (intro wS hSw; (try dsimp only at hSw); (try go_split_ands); go_simp; try with_reducible rfl)
                try simp only [List.getElem_toArray, List.getElem_cons_succ, List.getElem_cons_zero, Act.put, List.setIfInBounds_toArray, List.set_cons_zero, List.set_cons_succ]
                refine wpAnyH_take (i := 13) (v := ?_) rfl (by kernel_rfl) (by kernel_rfl) (by kernel_rfl) (fun _ _ _ h => h) (Or.inl ⟨by rfl, ?_⟩) hHeld ?_
                rotate_left
                · (intro wS hSw; (try dsimp only at hSw); (try go_split_ands); go_simp; try with_reducible rfl)
                try simp only [List.getElem_toArray, List.getElem_cons_succ, List.getElem_cons_zero, Act.put, List.setIfInBounds_toArray, List.set_cons_zero, List.set_cons_succ]
                refine wpAnyH_take (i := 14) (v := ?_) rfl (by kernel_rfl) (by kernel_rfl) (by kernel_rfl) (fun _ _ _ h => h) (Or.inl ⟨by rfl, ?_⟩) hHeld ?_
                rotate_left
                · (intro wS hSw; (try dsimp only at hSw); (try go_split_ands); go_simp; try with_reducible rfl)
                try simp only [List.getElem_toArray, List.getElem_cons_succ, List.getElem_cons_zero, Act.put, List.setIfInBounds_toArray, List.set_cons_zero, List.set_cons_succ]
                refine wpAnyH_take (i := 15) (v := ?_) rfl (by kernel_rfl) (by kernel_rfl) (by kernel_rfl) (fun _ _ _ h => h) (Or.inl ⟨by rfl, ?_⟩) hHeld ?_
                rotate_left
                · (intro wS hSw; (try dsimp only at hSw); (try go_split_ands); go_simp; try with_reducible rfl)
                try simp only [List.getElem_toArray, List.getElem_cons_succ, List.getElem_cons_zero, Act.put, List.setIfInBounds_toArray, List.set_cons_zero, List.set_cons_succ]
                refine wpAnyH_take (i := 16) (v := ?_) rfl (by kernel_rfl) (by kernel_rfl) (by kernel_rfl) (fun _ _ _ h => h) (Or.inl ⟨by rfl, ?_⟩) hHeld ?_
                rotate_left
                · (intro wS hSw; (try dsimp only at hSw); (try go_split_ands); go_simp; try with_reducible rfl)
                try simp only [List.getElem_toArray, List.getElem_cons_succ, List.getElem_cons_zero, Act.put, List.setIfInBounds_toArray, List.set_cons_zero, List.set_cons_succ]
                refine wpAnyH_ready (rs := [9]) (by kernel_rfl) (by simp) ?_
                refine AllReadyH.cons rfl (fun K hK => ?_) AllReadyH.nil
                go_simp
                (go_at_call 19; ((with_reducible refine (cm3 _ hHeld.2.2.2.2.2.2.2.2).mono ?_); rintro e Y ⟨rfl, hbY⟩))
                refine hK.out _ _ ?_ (fun hNext => ?_)
                · exact ⟨pkc hbY hHeld.1, pkc hbY hHeld.2.1, pkc hbY hHeld.2.2.1, pkc hbY hHeld.2.2.2.1, pkc hbY hHeld.2.2.2.2.1, pkc hbY hHeld.2.2.2.2.2.1, pkc hbY hHeld.2.2.2.2.2.2.1, pkc hbY hHeld.2.2.2.2.2.2.2.1, pb2 hHeld.2.2.2.2.2.2.2.2 hbY⟩
                clear hbY
                clear hK K hHeld
                have hHeld := hNext
                clear hNext
                try simp only [List.getElem_toArray, List.getElem_cons_succ, List.getElem_cons_zero, Act.put, List.setIfInBounds_toArray, List.set_cons_zero, List.set_cons_succ]
                refine wpAnyH_take (i := 17) (v := ?_) rfl (by kernel_rfl) (by kernel_rfl) (by kernel_rfl) (fun _ _ _ h => h) (Or.inl ⟨by rfl, ?_⟩) hHeld ?_
                rotate_left
                · (intro wS hSw; (try dsimp only at hSw); (try go_split_ands); go_simp; try with_reducible rfl)
                try simp only [List.getElem_toArray, List.getElem_cons_succ, List.getElem_cons_zero, Act.put, List.setIfInBounds_toArray, List.set_cons_zero, List.set_cons_succ]
                refine wpAnyH_take (i := 18) (v := ?_) rfl (by kernel_rfl) (by kernel_rfl) (by kernel_rfl) (fun _ _ _ h => h) (Or.inl ⟨by rfl, ?_⟩) hHeld ?_
                rotate_left
                · (intro wS hSw; (try dsimp only at hSw); (try go_split_ands); go_simp; try with_reducible rfl)
                try simp only [List.getElem_toArray, List.getElem_cons_succ, List.getElem_cons_zero, Act.put, List.setIfInBounds_toArray, List.set_cons_zero, List.set_cons_succ]
                refine wpAnyH_take (i := 19) (v := ?_) rfl (by kernel_rfl) (by kernel_rfl) (by kernel_rfl) (fun _ _ _ h => h) (Or.inl ⟨by rfl, ?_⟩) hHeld ?_
                rotate_left
                · (intro wS hSw; (try dsimp only at hSw); (try go_split_ands); go_simp; try with_reducible rfl)
                try simp only [List.getElem_toArray, List.getElem_cons_succ, List.getElem_cons_zero, Act.put, List.setIfInBounds_toArray, List.set_cons_zero, List.set_cons_succ]
                refine wpAnyH_ready (rs := [20]) (by kernel_rfl) (by simp) ?_
                refine AllReadyH.cons rfl (fun K hK => ?_) AllReadyH.nil
                go_simp
                (go_at_call 21; ((with_reducible refine (ca _ (pb2 HBF.out hHeld.2.2.2.2.2.2.2.2)).mono ?_); rintro e Y ⟨rfl, hbY⟩))
                refine hK.out _ _ ?_ (fun hNext => ?_)
                · exact ⟨pkc hbY hHeld.1, pkc hbY hHeld.2.1, pkc hbY hHeld.2.2.1, pkc hbY hHeld.2.2.2.1, pkc hbY hHeld.2.2.2.2.1, pkc hbY hHeld.2.2.2.2.2.1, pkc hbY hHeld.2.2.2.2.2.2.1, pkc hbY hHeld.2.2.2.2.2.2.2.1, pb2 hHeld.2.2.2.2.2.2.2.2 hbY⟩
                clear hbY
                clear hK K hHeld
                have hHeld := hNext
                clear hNext
                try simp only [List.getElem_toArray, List.getElem_cons_succ, List.getElem_cons_zero, Act.put, List.setIfInBounds_toArray, List.set_cons_zero, List.set_cons_succ]
                refine wpAnyH_take (i := 21) (v := ?_) rfl (by kernel_rfl) (by kernel_rfl) (by kernel_rfl) (fun _ _ _ h => h) (Or.inl ⟨by rfl, ?_⟩) hHeld ?_
                rotate_left
                · (intro wS hSw; (try dsimp only at hSw); (try go_split_ands); go_simp; try with_reducible rfl)
                try simp only [List.getElem_toArray, List.getElem_cons_succ, List.getElem_cons_zero, Act.put, List.setIfInBounds_toArray, List.set_cons_zero, List.set_cons_succ]
                refine wpAnyH_take (i := 22) (v := ?_) rfl (by kernel_rfl) (by kernel_rfl) (by kernel_rfl) (fun _ _ _ h => h) (Or.inl ⟨by rfl, ?_⟩) hHeld ?_
                rotate_left
                · (intro wS hSw; (try dsimp only at hSw); (try go_split_ands); go_simp; try with_reducible rfl)
                try simp only [List.getElem_toArray, List.getElem_cons_succ, List.getElem_cons_zero, Act.put, List.setIfInBounds_toArray, List.set_cons_zero, List.set_cons_succ]
                refine wpAnyH_done (by kernel_rfl) ?_ _
                have HX := Lib.hid hHeld.2.2.2.2.2.2.2.2
                clear hHeld
                go_wp2_with (fail)
                go_ret
                exact ⟨by simp, pb2 HBF.out HX.out⟩
              rw [hf2] at r2
              by_cases hf3 : o2.v = xo.v
              rotate_left
              · have hqq : (o2.v == xo.v) = false := by simpa using hf3
                have cm3 := fun W (hb : Below wc.heap.size wc W) => may_anyP ao3 lc3 (z0 ++ [⟨(tn : Int), true, o2, zAd⟩]) W (HE3.out.keep hb) (by rw [hNe]; omega) false (by rw [HRB.out, if_neg (fun x => hf3 (by rw [x.2]))]; rfl)
                rw [hNe] at cm3
                clear hf3
                refine wp_region_held_drew (S := fun W => W.cell? ⟨w.heap.size + 1, 0, none⟩ = some (.int .i64 xo.c) ∧ W.cell? ⟨w.heap.size + 1, 1, none⟩ = some (.int .i64 xo.k) ∧ W.cell? ⟨w.heap.size + 1, 2, none⟩ = some (.int .i64 xo.h) ∧ W.cell? ⟨w.heap.size + 1, 3, none⟩ = some (.int .i64 o2.v) ∧ W.cell? ⟨b, o + p * 12 + 2, none⟩ = some (.int .i64 xo.c) ∧ W.cell? ⟨b, o + p * 12 + 3, none⟩ = some (.int .i64 xo.k) ∧ W.cell? ⟨b, o + p * 12 + 4, none⟩ = some (.int .i64 xo.h) ∧ W.cell? ⟨b, o + p * 12 + 5, none⟩ = some (.int .i64 xo.v) ∧ Below wc.heap.size wc W) (by kernel_rfl) (by first | exact ⟨r0, r1, r2, r3, e2, e3, e4, e5, Below.refl _ _⟩ | exact ⟨r0, r1, r2, r3, e2, e3, e4, e5, (Below.refl _ _).drew⟩) (fun hHeld => ?_)
                refine wpAnyH_take (i := 0) (v := ?_) rfl (by kernel_rfl) (by kernel_rfl) (by kernel_rfl) (fun _ _ _ h => h) (Or.inl ⟨by rfl, ?_⟩) hHeld ?_
                rotate_left
                · (intro wS hSw; (try dsimp only at hSw); (try go_split_ands); go_simp; try with_reducible rfl)
                try simp only [List.getElem_toArray, List.getElem_cons_succ, List.getElem_cons_zero, Act.put, List.setIfInBounds_toArray, List.set_cons_zero, List.set_cons_succ]
                refine wpAnyH_ready (rs := [1]) (by kernel_rfl) (by simp) ?_
                refine AllReadyH.cons rfl (fun K hK => ?_) AllReadyH.nil
                go_simp
                (go_at_call 19; ((with_reducible refine (cm2 _ hHeld.2.2.2.2.2.2.2.2).mono ?_); rintro e Y ⟨rfl, hbY⟩))
                refine hK.out _ _ ?_ (fun hNext => ?_)
                · exact ⟨pkc hbY hHeld.1, pkc hbY hHeld.2.1, pkc hbY hHeld.2.2.1, pkc hbY hHeld.2.2.2.1, pkc hbY hHeld.2.2.2.2.1, pkc hbY hHeld.2.2.2.2.2.1, pkc hbY hHeld.2.2.2.2.2.2.1, pkc hbY hHeld.2.2.2.2.2.2.2.1, pb2 hHeld.2.2.2.2.2.2.2.2 hbY⟩
                clear hbY
                clear hK K hHeld
                have hHeld := hNext
                clear hNext
                try simp only [List.getElem_toArray, List.getElem_cons_succ, List.getElem_cons_zero, Act.put, List.setIfInBounds_toArray, List.set_cons_zero, List.set_cons_succ]
                refine wpAnyH_take (i := 2) (v := ?_) rfl (by kernel_rfl) (by kernel_rfl) (by kernel_rfl) (fun _ _ _ h => h) (Or.inl ⟨by rfl, ?_⟩) hHeld ?_
                rotate_left
                · (intro wS hSw; (try dsimp only at hSw); (try go_split_ands); go_simp; try with_reducible rfl)
                try simp only [List.getElem_toArray, List.getElem_cons_succ, List.getElem_cons_zero, Act.put, List.setIfInBounds_toArray, List.set_cons_zero, List.set_cons_succ]
                refine wpAnyH_take (i := 3) (v := ?_) rfl (by kernel_rfl) (by kernel_rfl) (by kernel_rfl) (fun _ _ _ h => h) (Or.inl ⟨by rfl, ?_⟩) hHeld ?_
                rotate_left
                · (intro wS hSw; (try dsimp only at hSw); (try go_split_ands); go_simp; try with_reducible rfl)
                try simp only [List.getElem_toArray, List.getElem_cons_succ, List.getElem_cons_zero, Act.put, List.setIfInBounds_toArray, List.set_cons_zero, List.set_cons_succ]
                refine wpAnyH_ready (rs := [4]) (by kernel_rfl) (by simp) ?_
                refine AllReadyH.cons rfl (fun K hK => ?_) AllReadyH.nil
                go_simp
                (go_at_call 19; ((with_reducible refine (cm1 _ hHeld.2.2.2.2.2.2.2.2).mono ?_); rintro e Y ⟨rfl, hbY⟩))
                refine hK.out _ _ ?_ (fun hNext => ?_)
                · exact ⟨pkc hbY hHeld.1, pkc hbY hHeld.2.1, pkc hbY hHeld.2.2.1, pkc hbY hHeld.2.2.2.1, pkc hbY hHeld.2.2.2.2.1, pkc hbY hHeld.2.2.2.2.2.1, pkc hbY hHeld.2.2.2.2.2.2.1, pkc hbY hHeld.2.2.2.2.2.2.2.1, pb2 hHeld.2.2.2.2.2.2.2.2 hbY⟩
                clear hbY
                clear hK K hHeld
                have hHeld := hNext
                clear hNext
                try simp only [List.getElem_toArray, List.getElem_cons_succ, List.getElem_cons_zero, Act.put, List.setIfInBounds_toArray, List.set_cons_zero, List.set_cons_succ]
                refine wpAnyH_take (i := 5) (v := ?_) rfl (by kernel_rfl) (by kernel_rfl) (by kernel_rfl) (fun _ _ _ h => h) (Or.inl ⟨by rfl, ?_⟩) hHeld ?_
                rotate_left
                · (intro wS hSw; (try dsimp only at hSw); (try go_split_ands); go_simp; try with_reducible rfl)
                try simp only [List.getElem_toArray, List.getElem_cons_succ, List.getElem_cons_zero, Act.put, List.setIfInBounds_toArray, List.set_cons_zero, List.set_cons_succ]
                refine wpAnyH_take (i := 6) (v := ?_) rfl (by kernel_rfl) (by kernel_rfl) (by kernel_rfl) (fun _ _ _ h => h) (Or.inl ⟨by rfl, ?_⟩) hHeld ?_
                rotate_left
                · (intro wS hSw; (try dsimp only at hSw); (try go_split_ands); go_simp; try with_reducible rfl)
                try simp only [List.getElem_toArray, List.getElem_cons_succ, List.getElem_cons_zero, Act.put, List.setIfInBounds_toArray, List.set_cons_zero, List.set_cons_succ]
                refine wpAnyH_take (i := 7) (v := ?_) rfl (by kernel_rfl) (by kernel_rfl) (by kernel_rfl) (fun _ _ _ h => h) (Or.inl ⟨by rfl, ?_⟩) hHeld ?_
                rotate_left
                · (intro wS hSw; (try dsimp only at hSw); (try go_split_ands); go_simp; try with_reducible rfl)
                try simp only [List.getElem_toArray, List.getElem_cons_succ, List.getElem_cons_zero, Act.put, List.setIfInBounds_toArray, List.set_cons_zero, List.set_cons_succ]
                refine wpAnyH_take (i := 8) (v := ?_) rfl (by kernel_rfl) (by kernel_rfl) (by kernel_rfl) (fun _ _ _ h => h) (Or.inl ⟨by rfl, ?_⟩) hHeld ?_
                rotate_left
                · (intro wS hSw; (try dsimp only at hSw); (try go_split_ands); go_simp; try with_reducible rfl)
                try simp only [List.getElem_toArray, List.getElem_cons_succ, List.getElem_cons_zero, Act.put, List.setIfInBounds_toArray, List.set_cons_zero, List.set_cons_succ]
                refine wpAnyH_take (i := 10) (v := ?_) rfl (by kernel_rfl) (by kernel_rfl) (by kernel_rfl) (fun _ _ _ h => h) (Or.inl ⟨by rfl, ?_⟩) hHeld ?_
                rotate_left
                · (intro wS hSw; (try dsimp only at hSw); (try go_split_ands); go_simp; try with_reducible rfl)
                try simp only [List.getElem_toArray, List.getElem_cons_succ, List.getElem_cons_zero, Act.put, List.setIfInBounds_toArray, List.set_cons_zero, List.set_cons_succ]
                refine wpAnyH_take (i := 11) (v := ?_) rfl (by kernel_rfl) (by kernel_rfl) (by kernel_rfl) (fun _ _ _ h => h) (Or.inl ⟨by rfl, ?_⟩) hHeld ?_
                rotate_left
                · (intro wS hSw; (try dsimp only at hSw); (try go_split_ands); go_simp; try with_reducible rfl)
                try simp only [List.getElem_toArray, List.getElem_cons_succ, List.getElem_cons_zero, Act.put, List.setIfInBounds_toArray, List.set_cons_zero, List.set_cons_succ]
                refine wpAnyH_take (i := 12) (v := ?_) rfl (by kernel_rfl) (by kernel_rfl) (by kernel_rfl) (fun _ _ _ h => h) (Or.inl ⟨by rfl, ?_⟩) hHeld ?_
                rotate_left
                · (intro wS hSw; (try dsimp only at hSw); (try go_split_ands); go_simp; try with_reducible rfl)
                try simp only [List.getElem_toArray, List.getElem_cons_succ, List.getElem_cons_zero, Act.put, List.setIfInBounds_toArray, List.set_cons_zero, List.set_cons_succ]
                refine wpAnyH_take (i := 13) (v := ?_) rfl (by kernel_rfl) (by kernel_rfl) (by kernel_rfl) (fun _ _ _ h => h) (Or.inl ⟨by rfl, ?_⟩) hHeld ?_
                rotate_left
                · (intro wS hSw; (try dsimp only at hSw); (try go_split_ands); go_simp; try with_reducible rfl)
                try simp only [List.getElem_toArray, List.getElem_cons_succ, List.getElem_cons_zero, Act.put, List.setIfInBounds_toArray, List.set_cons_zero, List.set_cons_succ]
                refine wpAnyH_take (i := 14) (v := ?_) rfl (by kernel_rfl) (by kernel_rfl) (by kernel_rfl) (fun _ _ _ h => h) (Or.inl ⟨by rfl, ?_⟩) hHeld ?_
                rotate_left
                · (intro wS hSw; (try dsimp only at hSw); (try go_split_ands); go_simp; try with_reducible rfl)
                try simp only [List.getElem_toArray, List.getElem_cons_succ, List.getElem_cons_zero, Act.put, List.setIfInBounds_toArray, List.set_cons_zero, List.set_cons_succ]
                refine wpAnyH_take (i := 15) (v := ?_) rfl (by kernel_rfl) (by kernel_rfl) (by kernel_rfl) (fun _ _ _ h => h) (Or.inl ⟨by rfl, ?_⟩) hHeld ?_
                rotate_left
                · (intro wS hSw; (try dsimp only at hSw); (try go_split_ands); go_simp; try with_reducible rfl)
                try simp only [List.getElem_toArray, List.getElem_cons_succ, List.getElem_cons_zero, Act.put, List.setIfInBounds_toArray, List.set_cons_zero, List.set_cons_succ]
                refine wpAnyH_take (i := 16) (v := ?_) rfl (by kernel_rfl) (by kernel_rfl) (by kernel_rfl) (fun _ _ _ h => h) (Or.inl ⟨by rfl, ?_⟩) hHeld ?_
                rotate_left
                · (intro wS hSw; (try dsimp only at hSw); (try go_split_ands); go_simp; try with_reducible rfl)
                try simp only [List.getElem_toArray, List.getElem_cons_succ, List.getElem_cons_zero, Act.put, List.setIfInBounds_toArray, List.set_cons_zero, List.set_cons_succ]
                refine wpAnyH_ready (rs := [9]) (by kernel_rfl) (by simp) ?_
                refine AllReadyH.cons rfl (fun K hK => ?_) AllReadyH.nil
                go_simp
                (go_at_call 19; ((with_reducible refine (cm3 _ hHeld.2.2.2.2.2.2.2.2).mono ?_); rintro e Y ⟨rfl, hbY⟩))
                refine hK.out _ _ ?_ (fun hNext => ?_)
                · exact ⟨pkc hbY hHeld.1, pkc hbY hHeld.2.1, pkc hbY hHeld.2.2.1, pkc hbY hHeld.2.2.2.1, pkc hbY hHeld.2.2.2.2.1, pkc hbY hHeld.2.2.2.2.2.1, pkc hbY hHeld.2.2.2.2.2.2.1, pkc hbY hHeld.2.2.2.2.2.2.2.1, pb2 hHeld.2.2.2.2.2.2.2.2 hbY⟩
                clear hbY
                clear hK K hHeld
                have hHeld := hNext
                clear hNext
                try simp only [List.getElem_toArray, List.getElem_cons_succ, List.getElem_cons_zero, Act.put, List.setIfInBounds_toArray, List.set_cons_zero, List.set_cons_succ]
                refine wpAnyH_take (i := 17) (v := ?_) rfl (by kernel_rfl) (by kernel_rfl) (by kernel_rfl) (fun _ _ _ h => h) (Or.inl ⟨by rfl, ?_⟩) hHeld ?_
                rotate_left
                · (intro wS hSw; (try dsimp only at hSw); (try go_split_ands); go_simp; try with_reducible rfl)
                try simp only [List.getElem_toArray, List.getElem_cons_succ, List.getElem_cons_zero, Act.put, List.setIfInBounds_toArray, List.set_cons_zero, List.set_cons_succ]
                refine wpAnyH_take (i := 18) (v := ?_) rfl (by kernel_rfl) (by kernel_rfl) (by kernel_rfl) (fun _ _ _ h => h) (Or.inl ⟨by rfl, ?_⟩) hHeld ?_
                rotate_left
                · (intro wS hSw; (try dsimp only at hSw); (try go_split_ands); go_simp; try with_reducible rfl)
                try simp only [List.getElem_toArray, List.getElem_cons_succ, List.getElem_cons_zero, Act.put, List.setIfInBounds_toArray, List.set_cons_zero, List.set_cons_succ]
                refine wpAnyH_take (i := 19) (v := ?_) rfl (by kernel_rfl) (by kernel_rfl) (by kernel_rfl) (fun _ _ _ h => h) (Or.inl ⟨by rfl, ?_⟩) hHeld ?_
                rotate_left
                · (intro wS hSw; (try dsimp only at hSw); (try go_split_ands); go_simp; try with_reducible rfl)
                try simp only [List.getElem_toArray, List.getElem_cons_succ, List.getElem_cons_zero, Act.put, List.setIfInBounds_toArray, List.set_cons_zero, List.set_cons_succ]
                refine wpAnyH_ready (rs := [20]) (by kernel_rfl) (by simp) ?_
                refine AllReadyH.cons rfl (fun K hK => ?_) AllReadyH.nil
                go_simp
                (go_at_call 21; ((with_reducible refine (ca _ (pb2 HBF.out hHeld.2.2.2.2.2.2.2.2)).mono ?_); rintro e Y ⟨rfl, hbY⟩))
                refine hK.out _ _ ?_ (fun hNext => ?_)
                · exact ⟨pkc hbY hHeld.1, pkc hbY hHeld.2.1, pkc hbY hHeld.2.2.1, pkc hbY hHeld.2.2.2.1, pkc hbY hHeld.2.2.2.2.1, pkc hbY hHeld.2.2.2.2.2.1, pkc hbY hHeld.2.2.2.2.2.2.1, pkc hbY hHeld.2.2.2.2.2.2.2.1, pb2 hHeld.2.2.2.2.2.2.2.2 hbY⟩
                clear hbY
                clear hK K hHeld
                have hHeld := hNext
                clear hNext
                try simp only [List.getElem_toArray, List.getElem_cons_succ, List.getElem_cons_zero, Act.put, List.setIfInBounds_toArray, List.set_cons_zero, List.set_cons_succ]
                refine wpAnyH_take (i := 21) (v := ?_) rfl (by kernel_rfl) (by kernel_rfl) (by kernel_rfl) (fun _ _ _ h => h) (Or.inl ⟨by rfl, ?_⟩) hHeld ?_
                rotate_left
                · (intro wS hSw; (try dsimp only at hSw); (try go_split_ands); go_simp; try with_reducible rfl)
                try simp only [List.getElem_toArray, List.getElem_cons_succ, List.getElem_cons_zero, Act.put, List.setIfInBounds_toArray, List.set_cons_zero, List.set_cons_succ]
                refine wpAnyH_take (i := 22) (v := ?_) rfl (by kernel_rfl) (by kernel_rfl) (by kernel_rfl) (fun _ _ _ h => h) (Or.inl ⟨by rfl, ?_⟩) hHeld ?_
                rotate_left
                · (intro wS hSw; (try dsimp only at hSw); (try go_split_ands); go_simp; try with_reducible rfl)
                try simp only [List.getElem_toArray, List.getElem_cons_succ, List.getElem_cons_zero, Act.put, List.setIfInBounds_toArray, List.set_cons_zero, List.set_cons_succ]
                refine wpAnyH_done (by kernel_rfl) ?_ _
                have HX := Lib.hid hHeld.2.2.2.2.2.2.2.2
                clear hHeld
                go_wp2_with (fail)
                go_ret
                exact ⟨by simp, pb2 HBF.out HX.out⟩
              rw [hf3] at r3
              have heq : xo = o2 := by cases xo; cases o2; simp_all
              have cm3 := fun W (hb : Below wc.heap.size wc W) => may_anyP ao3 lc3 (z0 ++ [⟨(tn : Int), true, o2, zAd⟩]) W (HE3.out.keep hb) (by rw [hNe]; omega) true (by rw [HRB.out, if_pos ⟨HX0.out, heq⟩]; rfl)
              rw [hNe] at cm3
              clear heq hf0 hf1 hf2 hf3
              refine wp_region_held_drew (S := fun W => W.cell? ⟨w.heap.size + 1, 0, none⟩ = some (.int .i64 xo.c) ∧ W.cell? ⟨w.heap.size + 1, 1, none⟩ = some (.int .i64 xo.k) ∧ W.cell? ⟨w.heap.size + 1, 2, none⟩ = some (.int .i64 xo.h) ∧ W.cell? ⟨w.heap.size + 1, 3, none⟩ = some (.int .i64 xo.v) ∧ W.cell? ⟨b, o + p * 12 + 2, none⟩ = some (.int .i64 xo.c) ∧ W.cell? ⟨b, o + p * 12 + 3, none⟩ = some (.int .i64 xo.k) ∧ W.cell? ⟨b, o + p * 12 + 4, none⟩ = some (.int .i64 xo.h) ∧ W.cell? ⟨b, o + p * 12 + 5, none⟩ = some (.int .i64 xo.v) ∧ Below wc.heap.size wc W) (by kernel_rfl) (by first | exact ⟨r0, r1, r2, r3, e2, e3, e4, e5, Below.refl _ _⟩ | exact ⟨r0, r1, r2, r3, e2, e3, e4, e5, (Below.refl _ _).drew⟩) (fun hHeld => ?_)
              refine wpAnyH_take (i := 0) (v := ?_) rfl (by kernel_rfl) (by kernel_rfl) (by kernel_rfl) (fun _ _ _ h => h) (Or.inl ⟨by rfl, ?_⟩) hHeld ?_
              rotate_left
              · (intro wS hSw; (try dsimp only at hSw); (try go_split_ands); go_simp; try with_reducible rfl)
              try simp only [List.getElem_toArray, List.getElem_cons_succ, List.getElem_cons_zero, Act.put, List.setIfInBounds_toArray, List.set_cons_zero, List.set_cons_succ]
              refine wpAnyH_ready (rs := [1]) (by kernel_rfl) (by simp) ?_
              refine AllReadyH.cons rfl (fun K hK => ?_) AllReadyH.nil
              go_simp
              (go_at_call 19; ((with_reducible refine (cm2 _ hHeld.2.2.2.2.2.2.2.2).mono ?_); rintro e Y ⟨rfl, hbY⟩))
              refine hK.out _ _ ?_ (fun hNext => ?_)
              · exact ⟨pkc hbY hHeld.1, pkc hbY hHeld.2.1, pkc hbY hHeld.2.2.1, pkc hbY hHeld.2.2.2.1, pkc hbY hHeld.2.2.2.2.1, pkc hbY hHeld.2.2.2.2.2.1, pkc hbY hHeld.2.2.2.2.2.2.1, pkc hbY hHeld.2.2.2.2.2.2.2.1, pb2 hHeld.2.2.2.2.2.2.2.2 hbY⟩
              clear hbY
              clear hK K hHeld
              have hHeld := hNext
              clear hNext
              try simp only [List.getElem_toArray, List.getElem_cons_succ, List.getElem_cons_zero, Act.put, List.setIfInBounds_toArray, List.set_cons_zero, List.set_cons_succ]
              refine wpAnyH_take (i := 2) (v := ?_) rfl (by kernel_rfl) (by kernel_rfl) (by kernel_rfl) (fun _ _ _ h => h) (Or.inl ⟨by rfl, ?_⟩) hHeld ?_
              rotate_left
              · (intro wS hSw; (try dsimp only at hSw); (try go_split_ands); go_simp; try with_reducible rfl)
              try simp only [List.getElem_toArray, List.getElem_cons_succ, List.getElem_cons_zero, Act.put, List.setIfInBounds_toArray, List.set_cons_zero, List.set_cons_succ]
              refine wpAnyH_take (i := 3) (v := ?_) rfl (by kernel_rfl) (by kernel_rfl) (by kernel_rfl) (fun _ _ _ h => h) (Or.inl ⟨by rfl, ?_⟩) hHeld ?_
              rotate_left
              · (intro wS hSw; (try dsimp only at hSw); (try go_split_ands); go_simp; try with_reducible rfl)
              try simp only [List.getElem_toArray, List.getElem_cons_succ, List.getElem_cons_zero, Act.put, List.setIfInBounds_toArray, List.set_cons_zero, List.set_cons_succ]
              refine wpAnyH_ready (rs := [4]) (by kernel_rfl) (by simp) ?_
              refine AllReadyH.cons rfl (fun K hK => ?_) AllReadyH.nil
              go_simp
              (go_at_call 19; ((with_reducible refine (cm1 _ hHeld.2.2.2.2.2.2.2.2).mono ?_); rintro e Y ⟨rfl, hbY⟩))
              refine hK.out _ _ ?_ (fun hNext => ?_)
              · exact ⟨pkc hbY hHeld.1, pkc hbY hHeld.2.1, pkc hbY hHeld.2.2.1, pkc hbY hHeld.2.2.2.1, pkc hbY hHeld.2.2.2.2.1, pkc hbY hHeld.2.2.2.2.2.1, pkc hbY hHeld.2.2.2.2.2.2.1, pkc hbY hHeld.2.2.2.2.2.2.2.1, pb2 hHeld.2.2.2.2.2.2.2.2 hbY⟩
              clear hbY
              clear hK K hHeld
              have hHeld := hNext
              clear hNext
              try simp only [List.getElem_toArray, List.getElem_cons_succ, List.getElem_cons_zero, Act.put, List.setIfInBounds_toArray, List.set_cons_zero, List.set_cons_succ]
              refine wpAnyH_take (i := 5) (v := ?_) rfl (by kernel_rfl) (by kernel_rfl) (by kernel_rfl) (fun _ _ _ h => h) (Or.inl ⟨by rfl, ?_⟩) hHeld ?_
              rotate_left
              · (intro wS hSw; (try dsimp only at hSw); (try go_split_ands); go_simp; try with_reducible rfl)
              try simp only [List.getElem_toArray, List.getElem_cons_succ, List.getElem_cons_zero, Act.put, List.setIfInBounds_toArray, List.set_cons_zero, List.set_cons_succ]
              refine wpAnyH_take (i := 6) (v := ?_) rfl (by kernel_rfl) (by kernel_rfl) (by kernel_rfl) (fun _ _ _ h => h) (Or.inl ⟨by rfl, ?_⟩) hHeld ?_
              rotate_left
              · (intro wS hSw; (try dsimp only at hSw); (try go_split_ands); go_simp; try with_reducible rfl)
              try simp only [List.getElem_toArray, List.getElem_cons_succ, List.getElem_cons_zero, Act.put, List.setIfInBounds_toArray, List.set_cons_zero, List.set_cons_succ]
              refine wpAnyH_take (i := 7) (v := ?_) rfl (by kernel_rfl) (by kernel_rfl) (by kernel_rfl) (fun _ _ _ h => h) (Or.inl ⟨by rfl, ?_⟩) hHeld ?_
              rotate_left
              · (intro wS hSw; (try dsimp only at hSw); (try go_split_ands); go_simp; try with_reducible rfl)
              try simp only [List.getElem_toArray, List.getElem_cons_succ, List.getElem_cons_zero, Act.put, List.setIfInBounds_toArray, List.set_cons_zero, List.set_cons_succ]
              refine wpAnyH_take (i := 8) (v := ?_) rfl (by kernel_rfl) (by kernel_rfl) (by kernel_rfl) (fun _ _ _ h => h) (Or.inl ⟨by rfl, ?_⟩) hHeld ?_
              rotate_left
              · (intro wS hSw; (try dsimp only at hSw); (try go_split_ands); go_simp; try with_reducible rfl)
              try simp only [List.getElem_toArray, List.getElem_cons_succ, List.getElem_cons_zero, Act.put, List.setIfInBounds_toArray, List.set_cons_zero, List.set_cons_succ]
              refine wpAnyH_take (i := 10) (v := ?_) rfl (by kernel_rfl) (by kernel_rfl) (by kernel_rfl) (fun _ _ _ h => h) (Or.inl ⟨by rfl, ?_⟩) hHeld ?_
              rotate_left
              · (intro wS hSw; (try dsimp only at hSw); (try go_split_ands); go_simp; try with_reducible rfl)
              try simp only [List.getElem_toArray, List.getElem_cons_succ, List.getElem_cons_zero, Act.put, List.setIfInBounds_toArray, List.set_cons_zero, List.set_cons_succ]
              refine wpAnyH_take (i := 11) (v := ?_) rfl (by kernel_rfl) (by kernel_rfl) (by kernel_rfl) (fun _ _ _ h => h) (Or.inl ⟨by rfl, ?_⟩) hHeld ?_
              rotate_left
              · (intro wS hSw; (try dsimp only at hSw); (try go_split_ands); go_simp; try with_reducible rfl)
              try simp only [List.getElem_toArray, List.getElem_cons_succ, List.getElem_cons_zero, Act.put, List.setIfInBounds_toArray, List.set_cons_zero, List.set_cons_succ]
              refine wpAnyH_take (i := 12) (v := ?_) rfl (by kernel_rfl) (by kernel_rfl) (by kernel_rfl) (fun _ _ _ h => h) (Or.inl ⟨by rfl, ?_⟩) hHeld ?_
              rotate_left
              · (intro wS hSw; (try dsimp only at hSw); (try go_split_ands); go_simp; try with_reducible rfl)
              try simp only [List.getElem_toArray, List.getElem_cons_succ, List.getElem_cons_zero, Act.put, List.setIfInBounds_toArray, List.set_cons_zero, List.set_cons_succ]
              refine wpAnyH_take (i := 13) (v := ?_) rfl (by kernel_rfl) (by kernel_rfl) (by kernel_rfl) (fun _ _ _ h => h) (Or.inl ⟨by rfl, ?_⟩) hHeld ?_
              rotate_left
              · (intro wS hSw; (try dsimp only at hSw); (try go_split_ands); go_simp; try with_reducible rfl)
              try simp only [List.getElem_toArray, List.getElem_cons_succ, List.getElem_cons_zero, Act.put, List.setIfInBounds_toArray, List.set_cons_zero, List.set_cons_succ]
              refine wpAnyH_take (i := 14) (v := ?_) rfl (by kernel_rfl) (by kernel_rfl) (by kernel_rfl) (fun _ _ _ h => h) (Or.inl ⟨by rfl, ?_⟩) hHeld ?_
              rotate_left
              · (intro wS hSw; (try dsimp only at hSw); (try go_split_ands); go_simp; try with_reducible rfl)
              try simp only [List.getElem_toArray, List.getElem_cons_succ, List.getElem_cons_zero, Act.put, List.setIfInBounds_toArray, List.set_cons_zero, List.set_cons_succ]
              refine wpAnyH_take (i := 15) (v := ?_) rfl (by kernel_rfl) (by kernel_rfl) (by kernel_rfl) (fun _ _ _ h => h) (Or.inl ⟨by rfl, ?_⟩) hHeld ?_
              rotate_left
              · (intro wS hSw; (try dsimp only at hSw); (try go_split_ands); go_simp; try with_reducible rfl)
              try simp only [List.getElem_toArray, List.getElem_cons_succ, List.getElem_cons_zero, Act.put, List.setIfInBounds_toArray, List.set_cons_zero, List.set_cons_succ]
              refine wpAnyH_take (i := 16) (v := ?_) rfl (by kernel_rfl) (by kernel_rfl) (by kernel_rfl) (fun _ _ _ h => h) (Or.inl ⟨by rfl, ?_⟩) hHeld ?_
              rotate_left
              · (intro wS hSw; (try dsimp only at hSw); (try go_split_ands); go_simp; try with_reducible rfl)
              try simp only [List.getElem_toArray, List.getElem_cons_succ, List.getElem_cons_zero, Act.put, List.setIfInBounds_toArray, List.set_cons_zero, List.set_cons_succ]
              refine wpAnyH_ready (rs := [9]) (by kernel_rfl) (by simp) ?_
              refine AllReadyH.cons rfl (fun K hK => ?_) AllReadyH.nil
              go_simp
              (go_at_call 19; ((with_reducible refine (cm3 _ hHeld.2.2.2.2.2.2.2.2).mono ?_); rintro e Y ⟨rfl, hbY⟩))
              refine hK.out _ _ ?_ (fun hNext => ?_)
              · exact ⟨pkc hbY hHeld.1, pkc hbY hHeld.2.1, pkc hbY hHeld.2.2.1, pkc hbY hHeld.2.2.2.1, pkc hbY hHeld.2.2.2.2.1, pkc hbY hHeld.2.2.2.2.2.1, pkc hbY hHeld.2.2.2.2.2.2.1, pkc hbY hHeld.2.2.2.2.2.2.2.1, pb2 hHeld.2.2.2.2.2.2.2.2 hbY⟩
              clear hbY
              clear hK K hHeld
              have hHeld := hNext
              clear hNext
              try simp only [List.getElem_toArray, List.getElem_cons_succ, List.getElem_cons_zero, Act.put, List.setIfInBounds_toArray, List.set_cons_zero, List.set_cons_succ]
              refine wpAnyH_take (i := 17) (v := ?_) rfl (by kernel_rfl) (by kernel_rfl) (by kernel_rfl) (fun _ _ _ h => h) (Or.inl ⟨by rfl, ?_⟩) hHeld ?_
              rotate_left
              · (intro wS hSw; (try dsimp only at hSw); (try go_split_ands); go_simp; try with_reducible rfl)
              try simp only [List.getElem_toArray, List.getElem_cons_succ, List.getElem_cons_zero, Act.put, List.setIfInBounds_toArray, List.set_cons_zero, List.set_cons_succ]
              refine wpAnyH_take (i := 18) (v := ?_) rfl (by kernel_rfl) (by kernel_rfl) (by kernel_rfl) (fun _ _ _ h => h) (Or.inl ⟨by rfl, ?_⟩) hHeld ?_
              rotate_left
              · (intro wS hSw; (try dsimp only at hSw); (try go_split_ands); go_simp; try with_reducible rfl)
              try simp only [List.getElem_toArray, List.getElem_cons_succ, List.getElem_cons_zero, Act.put, List.setIfInBounds_toArray, List.set_cons_zero, List.set_cons_succ]
              refine wpAnyH_take (i := 19) (v := ?_) rfl (by kernel_rfl) (by kernel_rfl) (by kernel_rfl) (fun _ _ _ h => h) (Or.inl ⟨by rfl, ?_⟩) hHeld ?_
              rotate_left
              · (intro wS hSw; (try dsimp only at hSw); (try go_split_ands); go_simp; try with_reducible rfl)
              try simp only [List.getElem_toArray, List.getElem_cons_succ, List.getElem_cons_zero, Act.put, List.setIfInBounds_toArray, List.set_cons_zero, List.set_cons_succ]
              refine wpAnyH_ready (rs := [20]) (by kernel_rfl) (by simp) ?_
              refine AllReadyH.cons rfl (fun K hK => ?_) AllReadyH.nil
              go_simp
              (go_at_call 21; ((with_reducible refine (ca _ (pb2 HBF.out hHeld.2.2.2.2.2.2.2.2)).mono ?_); rintro e Y ⟨rfl, hbY⟩))
              refine hK.out _ _ ?_ (fun hNext => ?_)
              · exact ⟨pkc hbY hHeld.1, pkc hbY hHeld.2.1, pkc hbY hHeld.2.2.1, pkc hbY hHeld.2.2.2.1, pkc hbY hHeld.2.2.2.2.1, pkc hbY hHeld.2.2.2.2.2.1, pkc hbY hHeld.2.2.2.2.2.2.1, pkc hbY hHeld.2.2.2.2.2.2.2.1, pb2 hHeld.2.2.2.2.2.2.2.2 hbY⟩
              clear hbY
              clear hK K hHeld
              have hHeld := hNext
              clear hNext
              try simp only [List.getElem_toArray, List.getElem_cons_succ, List.getElem_cons_zero, Act.put, List.setIfInBounds_toArray, List.set_cons_zero, List.set_cons_succ]
              refine wpAnyH_take (i := 21) (v := ?_) rfl (by kernel_rfl) (by kernel_rfl) (by kernel_rfl) (fun _ _ _ h => h) (Or.inl ⟨by rfl, ?_⟩) hHeld ?_
              rotate_left
              · (intro wS hSw; (try dsimp only at hSw); (try go_split_ands); go_simp; try with_reducible rfl)
              try simp only [List.getElem_toArray, List.getElem_cons_succ, List.getElem_cons_zero, Act.put, List.setIfInBounds_toArray, List.set_cons_zero, List.set_cons_succ]
              refine wpAnyH_take (i := 22) (v := ?_) rfl (by kernel_rfl) (by kernel_rfl) (by kernel_rfl) (fun _ _ _ h => h) (Or.inl ⟨by rfl, ?_⟩) hHeld ?_
              rotate_left
              · (intro wS hSw; (try dsimp only at hSw); (try go_split_ands); go_simp; try with_reducible rfl)
              try simp only [List.getElem_toArray, List.getElem_cons_succ, List.getElem_cons_zero, Act.put, List.setIfInBounds_toArray, List.set_cons_zero, List.set_cons_succ]
              refine wpAnyH_done (by kernel_rfl) ?_ _
              have HX := Lib.hid hHeld.2.2.2.2.2.2.2.2
              clear hHeld
              go_wp2_with (fail)
              go_ret
              exact ⟨by simp, pb2 HBF.out HX.out⟩

set_option maxRecDepth 100000 in
theorem lifted (os : Os) (started : os.Started) (H : Type) (enc : TypeId × Value → H) :
    ReturnsInHanded {} Try.checked os 6 .any (Rows.pastTurnsSpec.pre6 enc Try.prog Try.f6 Rows.pastTurnsRow.domain false) (Rows.pastTurnsSpec.post enc Try.prog Try.f6 false true false false) := by
  refine returnsInHanded_of_change_sized (C := Try.checked) own started (by kernel_rfl) Try.func6
    (ChangeSpec.witness6 (enc := enc) (C := Try.checked) false ⟨#[], #[.slice none 0 0, .agg #[.int .i64 0, .int .i64 0, .int .i64 0, .int .i64 0], .agg #[.int .i64 0, .int .i64 0, .int .i64 0, .int .i64 0], .int .i64 0], []⟩ 8 (by kernel_rfl) (by kernel_rfl) (by kernel_rfl) (by kernel_rfl)) ?_
  intro W base args ds gs before hval0 hW hcnd hsz _
  have hval : ∀ (j : Nat) t v, Try.f6.params[j]? = some t → args[j]? = some v → Value.okWide Try.prog W .any base t v := hval0
  have hW' := hW
  obtain ⟨p, q, hA0, hV, rfl, hfz, hnd⟩ := hW
  have hA : DataW.TrodAll enc Try.prog W 0 (fun _ => true) true Try.f6.params.toList args.toList ds p := hA0
  rw [Try.params6] at hA hval
  obtain ⟨v0, vs0, d0, ds0, p0, q0, hargs, rfl, rfl, h0, r0⟩ := trodAll_cons hA
  obtain ⟨v1, vs1, d1, ds1, p1, q1, rfl, rfl, rfl, h1, r1⟩ := trodAll_cons r0
  obtain ⟨v2, vs2, d2, ds2, p2, q2, rfl, rfl, rfl, h2, r2⟩ := trodAll_cons r1
  obtain ⟨v3, vs3, d3, ds3, p3, q3, rfl, rfl, rfl, h3, r3⟩ := trodAll_cons r2
  obtain ⟨rfl, rfl, rfl⟩ := trodAll_nil r3
  obtain rfl : args = #[v0, v1, v2, v3] := by cases args; simp_all
  obtain ⟨rfl, rfl⟩ := trodVars_none hV
  have k0 := h0
  have lt0 : ∀ x ∈ p0, x.block < W.heap.size := by obtain ⟨m, hm⟩ := k0; exact DataW.trod_lt m _ _ _ hm
  obtain ⟨b0, l0, c0, rfl⟩ := okWide_slice Try.underlying52 (hval 0 52 v0 rfl rfl)
  obtain ⟨a0, cap0, z0, e0, w0, s0⟩ := open_eventsz (enc := enc) (w := W) (v := .slice b0 l0 c0) (fuel := h0.choose) (by simpa [Value.cells] using h0.choose_spec) (fun n hn => by simpa using List.all_eq_true.1 hsz n (DataW.weights_mem_each (j := 0) rfl rfl n hn))
  rw [e0] at hval k0 h0 hW' hval0 hA0
  have k1 := h1
  have lt1 : ∀ x ∈ p1, x.block < W.heap.size := by obtain ⟨m, hm⟩ := k1; exact DataW.trod_lt m _ _ _ hm
  obtain ⟨u1, rfl, _⟩ := okWide_struct Try.underlying28 (hval 1 28 v1 rfl rfl)
  obtain ⟨o1, e1, w1⟩ := fields_op (enc := enc) (w := W) (cs := u1.toList) (fuel := h1.choose) (by simpa [Value.cells] using h1.choose_spec)
  obtain rfl : u1 = #[.int .i64 o1.c, .int .i64 o1.k, .int .i64 o1.h, .int .i64 o1.v] := by cases u1; simp_all
  have k2 := h2
  have lt2 : ∀ x ∈ p2, x.block < W.heap.size := by obtain ⟨m, hm⟩ := k2; exact DataW.trod_lt m _ _ _ hm
  obtain ⟨u2, rfl, _⟩ := okWide_struct Try.underlying28 (hval 2 28 v2 rfl rfl)
  obtain ⟨o2, e2, w2⟩ := fields_op (enc := enc) (w := W) (cs := u2.toList) (fuel := h2.choose) (by simpa [Value.cells] using h2.choose_spec)
  obtain rfl : u2 = #[.int .i64 o2.c, .int .i64 o2.k, .int .i64 o2.h, .int .i64 o2.v] := by cases u2; simp_all
  have k3 := h3
  have lt3 : ∀ x ∈ p3, x.block < W.heap.size := by obtain ⟨m, hm⟩ := k3; exact DataW.trod_lt m _ _ _ hm
  obtain ⟨a3, rfl, rfl, rfl, w3⟩ := open_int Try.underlying3 (hval 3 3 v3 rfl rfl) h3
  clear hA0 hval0
  rw [e0]; refine (walk a0 cap0 z0 o1 o2 a3 W w0 s0 w1 w2 w3).mono fun e W' ⟨he, bel⟩ => ?_
  subst he
  exact ⟨_, rfl, _, _, _, [], _, [], hW', trodAll_mk1 (shut_bool Try.underlying4 _), (trodAll_cons_mk (Below.trod laidOut (by kernel_rfl) (of_decide_eq_true (by kernel_rfl)) k0 bel lt0) (trodAll_cons_mk (Below.trod laidOut (by kernel_rfl) (of_decide_eq_true (by kernel_rfl)) k1 bel lt1) (trodAll_cons_mk (Below.trod laidOut (by kernel_rfl) (of_decide_eq_true (by kernel_rfl)) k2 bel lt2) (trodAll_cons_mk (Below.trod laidOut (by kernel_rfl) (of_decide_eq_true (by kernel_rfl)) k3 bel lt3) trodAll_mk0)))), rfl, bel.frame _, fun h => by cases h⟩

theorem over : Rows.pastTurnsRow.holds Try.pinned (OpenSpec.ofChange Rows.pastTurnsSpec) :=
  OpenClaim.holds_of_wide 6 Try.f6 rfl rfl rfl rfl rfl rfl rfl ⟨rfl, rfl, rfl, rfl, rfl⟩ rfl rfl rfl rfl rfl (by kernel_rfl) Try.func6 (by kernel_rfl)
    (of_decide_eq_true (by kernel_rfl)) (by unfold Func.isWrapper; first | (rw [if_pos (by decide +kernel)]; kernel_rfl) | (rw [if_neg (by decide +kernel)]; exact ⟨rfl, rfl⟩))
    (fun os started H enc _ => lifted os started H enc)

theorem pastTurnsHolds : Rows.PastTurnsSaid := over
#print axioms pastTurnsHolds
end Go.Proofs.Ytdhonompnbphlaa.pastTurns
