/- 'osierlaw2.ArenaPlays' returns true for every room and every slice of Calls (nil, empty, of any length), and the slice reads afterwards as before. No condition. -/
import Derived.Test.YtighdfmjmmphaaaRows
import Derived.Test.YtighdfmjmmphaaaHeavy
import Derived.Test.YtighdfmjmmphaaaBoth2
import Derived.Deep.LoopGhost
import Derived.Deep.CutRange
import Derived.Deep.CutBlock
import Derived.Deep.RegionHeld3
import Derived.LoopTactic
import Derived.WalkKit
import Derived.ProofKit
import Derived.OpenShut
import Derived.ChangeOld
import Derived.Below
namespace Go.Proofs.Ytighdfmjmmphaaa.arenaPlays
open Go.ChangeShapes Go.WideShapes Go.ChangeAt Go.RowKit
set_option linter.unusedVariables false

theorem own : ownKnob Try.prog.godebug = none := by kernel_rfl
theorem laidOut : laidOutB Try.prog = true := by kernel_rfl

theorem small : (0 : Int) ≤ 0 := Int.le_refl _

set_option maxRecDepth 100000 in
set_option maxHeartbeats 12800000 in
theorem walk (a0 : Int) (a1 : Option Addr) (len1 cap1 : Nat) (z1 : List CallD) (w : World) (w0 : (Lit.int .i64 a0).wf = true) (w1 : ArgCalls w a1 len1 z1) :
    Calls Try.prog 3 #[.int .i64 a0, .slice a1 len1 cap1] w fun e w' => e = .returned (.bool true) ∧ Below w.heap.size w w' := by
  have W1 := Lib.hid w1
  have hz0 := w1.2.1
  have chh := heavy_any w a1 len1 cap1 z1 w1
  clear w1
  unfold maxLen at hz0
  by_cases hl : Light z1
  · have ch : Calls Try.prog 9 #[.slice a1 len1 cap1] w fun e w' => e = .returned (.int .i64 0) ∧ Below w.heap.size w w' := chh.mono fun e w' h => by
      rcases h with ⟨hb, ⟨_, he⟩ | ⟨hn, _⟩⟩
      · exact ⟨he, hb⟩
      · exact absurd hl hn
    have HL := Lib.hid hl
    clear chh hl
    obtain ⟨r, hr⟩ : ∃ r, min (max a0 0) 60000 = r := ⟨_, rfl⟩
    have cn : ∀ W : World, Calls Try.prog 11 #[.int .i64 a0] W fun e w' => e = .returned (.pointer (some ⟨W.heap.size, 0, none⟩)) ∧ w' = W.alloc (.cells #[.int .i64 r, .int .i64 0, .slice none 0 0, .slice none 0 0] 52) := fun W => by rw [← hr]; exact new_any a0 W
    have cr : ∀ W : World, Calls Try.prog 12 #[.int .i64 a0] W fun e w' => e = .returned (.pointer (some ⟨W.heap.size, 0, none⟩)) ∧ w' = W.alloc (.cells #[.int .i64 r, .slice none 0 0, .int .i64 0] 44) := fun W => by rw [← hr]; exact rnew_any a0 W
    have HR := Lib.hid hr
    clear hr
    go_enter Try.func3, Try.ntmps3
    go_wp2_with (first
      | (go_at_call 9; ((with_reducible refine ch.mono ?_); clear ch; rintro e W2 ⟨rfl, hb⟩))
      | (go_at_call 11; ((with_reducible refine (cn _).mono ?_); rintro e W3 ⟨rfl, rfl⟩))
      | (go_at_call 12; ((with_reducible refine (cr _).mono ?_); rintro e W4 ⟨rfl, rfl⟩)))
    have h0 := both_new a0 r hb HR.out
    go_loopg [28] len1 (fun g i wr => ∃ (n : Nat) (st : Int) (L : List It), n ≤ len1 ∧ g = len1 - n ∧ i = .int .i64 n ∧ Both w wr W2.heap.size (W2.heap.size + 1) (fun _ => False) r st L st L)
    case atStart => exact ⟨0, 0, [], Nat.zero_le _, by simp, rfl, h0⟩
    case round =>
      clear h0 hb cn cr
      generalize W2.heap.size = p at *
      obtain ⟨n, st, L, hn, rfl, rfl, hB⟩ := hrel
      by_cases hlt : n < len1
      · obtain ⟨c, hc⟩ : ∃ c, z1[n]? = some c := ⟨_, List.getElem?_eq_getElem (by rw [W1.out.1]; exact hlt)⟩
        obtain ⟨b, o, va, vc, rfl, hat⟩ := W1.out.2.2 n c hc
        obtain ⟨c0, c1, c2, c3, c4, c5⟩ := hat.below hB.b
        have hvs := hat.vs
        clear hat hc
        obtain ⟨d, k, id, old, now, vs⟩ := c
        dsimp only at c0 c1 c2 c3 c4 c5 hvs
        have hvs1 := hvs.1
        have HVS := Lib.hid hvs
        clear hvs
        unfold maxLen at hvs1
        have HB := Lib.hid (hB.box (.cells #[.int .i64 d, .int .i64 k, .int .i64 id, .int .i64 old, .int .i64 now, .slice va vs.length vc] 31))
        clear hB
        go_upto_block 2 with (fail)
        go_cut [9, 28] from 28 to 191 (fun ok i wx => ok = .bool true ∧ i = .int .i64 n ∧ ∃ st2 L2, Both w wx p (p + 1) (fun _ => False) r st2 L2 st2 L2)
        case first =>
          have hfit := (HB.out.fits).1
          by_cases hd0 : d = 0
          · subst hd0
            by_cases hbad : k < 1 ∨ 12 < vs.length
            · have ca := fun W => make_arg k va vs.length vc W p (by unfold maxLen; omega) hbad
              have cr := fun W => rmake_arg k va vs.length vc W (p + 1) (by unfold maxLen; omega) hbad
              clear hbad
              go_wp2_with (first
                | (go_at_call 13; ((with_reducible refine (ca _).mono ?_); rintro e W5 ⟨rfl, rfl⟩))
                | (go_at_call 14; ((with_reducible refine (cr _).mono ?_); rintro e W6 ⟨rfl, rfl⟩)))
              go_meet
              case rel => exact ⟨by simp, rfl, _, _, HB.out.free⟩
            · have hk1 : 1 ≤ k := by omega
              have hv12 : vs.length ≤ 12 := by omega
              clear hbad
              by_cases hfull : r = L.length
              · have hF := Lib.hid hfull
                clear hfull
                go_wp2_with (first
                  | (go_at_call 13; ((with_reducible refine (ba_make_full HB.out k va vs.length vc hk1 hv12 hF.out).mono ?_); rintro e W5 ⟨rfl, h5, k5⟩; obtain ⟨x1, x2, x3, x4, x5⟩ := kept_box k5; clear k5))
                  | (go_at_call 14; ((with_reducible refine (br_make_full h5 k va vs.length vc hk1 hv12 hF.out).mono ?_); rintro e W6 ⟨rfl, h6, k6⟩; clear k6)))
                go_meet
                case rel => exact ⟨by simp, rfl, _, _, h6.free⟩
              · have hlt2 : (L.length : Int) < r := by omega
                clear hfull
                go_wp2_with (first
                  | (go_at_call 13; ((with_reducible refine (ba_make_ok HB.out k vs va vc HVS.out hk1 hv12 hlt2).mono ?_); rintro e W5 ⟨rfl, h5, k5⟩; obtain ⟨x1, x2, x3, x4, x5⟩ := kept_box k5; clear k5))
                  | (go_at_call 14; ((with_reducible refine (br_make_ok h5 k vs va vc HVS.out hk1 hv12 hlt2).mono ?_); rintro e W6 ⟨rfl, h6, k6⟩; clear k6)))
                go_meet
                case rel => exact ⟨by simp, rfl, _, _, h6.free⟩
          · by_cases hd1 : d = 1
            · subst hd1
              clear hd0
              by_cases hfull : r = L.length
              · have hF := Lib.hid hfull
                clear hfull
                go_wp2_with (first
                  | (go_at_call 15; ((with_reducible refine (ba_cell_full HB.out now hF.out).mono ?_); rintro e W5 ⟨rfl, h5, k5⟩; obtain ⟨x1, x2, x3, x4, x5⟩ := kept_box k5; clear k5))
                  | (go_at_call 16; ((with_reducible refine (br_cell_full h5 now hF.out).mono ?_); rintro e W6 ⟨rfl, h6, k6⟩; clear k6)))
                go_meet
                case rel => exact ⟨by simp, rfl, _, _, h6.free⟩
              · have hlt2 : (L.length : Int) < r := by omega
                clear hfull
                go_wp2_with (first
                  | (go_at_call 15; ((with_reducible refine (ba_cell_ok HB.out now hlt2).mono ?_); rintro e W5 ⟨rfl, h5, k5⟩; obtain ⟨x1, x2, x3, x4, x5⟩ := kept_box k5; clear k5))
                  | (go_at_call 16; ((with_reducible refine (br_cell_ok h5 now hlt2).mono ?_); rintro e W6 ⟨rfl, h6, k6⟩; clear k6)))
                go_meet
                case rel => exact ⟨by simp, rfl, _, _, h6.free⟩
            · by_cases hd2 : d = 2
              · subst hd2
                clear hd0 hd1
                go_wp2_with (fail)
                go_region_held3 (fun W => W.cell? ⟨wr.heap.size, 2, none⟩ = some (.int .i64 id) ∧ W.cell? ⟨wr.heap.size, 3, none⟩ = some (.int .i64 old) ∧ W.cell? ⟨wr.heap.size, 4, none⟩ = some (.int .i64 now))
                  (first
                    | (go_split_ands; exact ⟨(k6.cell rfl).trans (by assumption), (k6.cell rfl).trans (by assumption), (k6.cell rfl).trans (by assumption)⟩)
                    | (go_split_ands; exact ⟨(k5.cell rfl).trans (by assumption), (k5.cell rfl).trans (by assumption), (k5.cell rfl).trans (by assumption)⟩)
                    | (go_split_ands; exact ⟨by assumption, by assumption, by assumption⟩)
                    | exact ⟨by simp, by simp, by simp⟩
                    | go_keep)
                  (first
                    | (go_at_call 17; ((with_reducible refine (ba_load (HB.out.below (Below.drew (Below.refl _ _))) id).mono ?_); rintro e W5 ⟨rfl, h5, k5⟩))
                    | (go_at_call 18; ((with_reducible refine (br_load h5 id).mono ?_); rintro e W6 ⟨rfl, h6, k6⟩)))
                go_wp2_with (fail)
                go_meet
                case rel => exact ⟨by simp, rfl, _, _, h6.free⟩
              · by_cases hd3 : d = 3
                · subst hd3
                  clear hd0 hd1 hd2
                  go_wp2_with (fail)
                  go_region_held3 (fun W => W.cell? ⟨wr.heap.size, 2, none⟩ = some (.int .i64 id) ∧ W.cell? ⟨wr.heap.size, 3, none⟩ = some (.int .i64 old) ∧ W.cell? ⟨wr.heap.size, 4, none⟩ = some (.int .i64 now))
                    (first
                      | (go_split_ands; exact ⟨(k6.cell rfl).trans (by assumption), (k6.cell rfl).trans (by assumption), (k6.cell rfl).trans (by assumption)⟩)
                      | (go_split_ands; exact ⟨(k5.cell rfl).trans (by assumption), (k5.cell rfl).trans (by assumption), (k5.cell rfl).trans (by assumption)⟩)
                      | (go_split_ands; exact ⟨by assumption, by assumption, by assumption⟩)
                      | exact ⟨by simp, by simp, by simp⟩
                      | go_keep)
                    (first
                      | (go_at_call 19; ((with_reducible refine (ba_swap (HB.out.below (Below.drew (Below.refl _ _))) id old now).mono ?_); rintro e W5 ⟨rfl, h5, k5⟩))
                      | (go_at_call 20; ((with_reducible refine (br_swap h5 id old now).mono ?_); rintro e W6 ⟨rfl, h6, k6⟩)))
                  go_wp2_with (fail)
                  go_meet
                  case rel => exact ⟨by simp, rfl, _, _, h6.free⟩
                · by_cases hd4 : d = 4
                  · subst hd4
                    clear hd0 hd1 hd2 hd3
                    go_wp2_with (fail)
                    go_region_held3 (fun W => W.cell? ⟨wr.heap.size, 2, none⟩ = some (.int .i64 id) ∧ W.cell? ⟨wr.heap.size, 3, none⟩ = some (.int .i64 old) ∧ W.cell? ⟨wr.heap.size, 4, none⟩ = some (.int .i64 now))
                      (first
                        | (go_split_ands; exact ⟨(k6.cell rfl).trans (by assumption), (k6.cell rfl).trans (by assumption), (k6.cell rfl).trans (by assumption)⟩)
                        | (go_split_ands; exact ⟨(k5.cell rfl).trans (by assumption), (k5.cell rfl).trans (by assumption), (k5.cell rfl).trans (by assumption)⟩)
                        | (go_split_ands; exact ⟨by assumption, by assumption, by assumption⟩)
                        | exact ⟨by simp, by simp, by simp⟩
                        | go_keep)
                      (first
                        | (go_at_call 21; ((with_reducible refine (ba_once (HB.out.below (Below.drew (Below.refl _ _))) id now).mono ?_); rintro e W5 ⟨rfl, h5, k5⟩))
                        | (go_at_call 22; ((with_reducible refine (br_once h5 id now).mono ?_); rintro e W6 ⟨rfl, h6, k6⟩)))
                    go_wp2_with (fail)
                    go_meet
                    case rel => exact ⟨by simp, rfl, _, _, h6.free⟩
                  · have e0 : (d == 0) = false := by simp [hd0]
                    have e1 : (d == 1) = false := by simp [hd1]
                    have e2 : (d == 2) = false := by simp [hd2]
                    have e3 : (d == 3) = false := by simp [hd3]
                    have e4 : (d == 4) = false := by simp [hd4]
                    clear hd0 hd1 hd2 hd3 hd4
                    go_wp2_with (fail)
                    go_region_held3 (fun W => W.cell? ⟨wr.heap.size, 2, none⟩ = some (.int .i64 id) ∧ W.cell? ⟨wr.heap.size, 3, none⟩ = some (.int .i64 old) ∧ W.cell? ⟨wr.heap.size, 4, none⟩ = some (.int .i64 now))
                      (first
                        | (go_split_ands; exact ⟨(k8.cell rfl).trans (by assumption), (k8.cell rfl).trans (by assumption), (k8.cell rfl).trans (by assumption)⟩)
                        | (go_split_ands; exact ⟨(k7.cell rfl).trans (by assumption), (k7.cell rfl).trans (by assumption), (k7.cell rfl).trans (by assumption)⟩)
                        | (go_split_ands; exact ⟨(k6.cell rfl).trans (by assumption), (k6.cell rfl).trans (by assumption), (k6.cell rfl).trans (by assumption)⟩)
                        | (go_split_ands; exact ⟨(k5.cell rfl).trans (by assumption), (k5.cell rfl).trans (by assumption), (k5.cell rfl).trans (by assumption)⟩)
                        | (go_split_ands; exact ⟨by assumption, by assumption, by assumption⟩)
                        | exact ⟨by simp, by simp, by simp⟩
                        | go_keep)
                      (first
                        | (go_at_call 23; ((with_reducible refine (ba_val (HB.out.below (Below.drew (Below.refl _ _))) id old).mono ?_); rintro e W5 ⟨rfl, h5, k5⟩))
                        | (go_at_call 24; ((with_reducible refine (br_val h5 id old).mono ?_); rintro e W6 ⟨rfl, h6, k6⟩))
                        | (go_at_call 25; ((with_reducible refine (ba_kind h6 id).mono ?_); rintro e W7 ⟨rfl, h7, k7⟩))
                        | (go_at_call 26; ((with_reducible refine (br_kind h7 id).mono ?_); rintro e W8 ⟨rfl, h8, k8⟩)))
                    go_wp2_with (fail)
                    go_meet
                    case rel => exact ⟨by simp, rfl, _, _, h8.free⟩
        case rest =>
          obtain ⟨rfl, rfl, st2, L2, hB2⟩ := hcut
          obtain ⟨F, lo, lc, a, q0, q1, q2⟩ := hB2.tests
          have hfit := hB2.fits
          have hsz : L2.length ≤ 60000 := by omega
          have hwr : IntKind.i64.wrap (r - (L2.length : Int)) = r - (L2.length : Int) := IntWalk.i64_in _ (by omega)
          have HB2 := Lib.hid hB2
          have HA := Lib.hid a
          clear hB2 a hfit
          go_wp2_with (fail)
          try dsimp only [List.append]
          go_region_held3 (fun W => W.cell? ⟨p + 1, 0, none⟩ = some (.int .i64 r) ∧ W.cell? ⟨p + 1, 1, none⟩ = some (.slice lo L2.length lc) ∧ W.cell? ⟨p + 1, 2, none⟩ = some (.int .i64 st2))
            (first
              | exact ⟨by assumption, by assumption, by assumption⟩
              | (go_split_ands; exact ⟨by assumption, by assumption, by assumption⟩)
              | go_keep)
            (first
              | (go_at_call 27; ((with_reducible refine (used_any _ p F r st2 L2 (HA.out.below (Below.drew (Below.refl _ _)))).mono ?_); rintro e W5 ⟨rfl, rfl⟩))
              | (go_at_call 28; ((with_reducible refine (room_any _ p F r st2 L2 (HA.out.below (Below.drew (Below.refl _ _)))).mono ?_); rintro e W5 ⟨rfl, nr, rfl⟩))
              | (go_at_call 29; ((with_reducible refine (steps_any _ p F r st2 L2 (HA.out.below (below_drewN (Below.refl _ _) _))).mono ?_); rintro e W5 ⟨rfl, rfl⟩)))
          go_wp2_with (fail)
          go_roundg (len1 - (n + 1))
          case measure => omega
          case rel => exact ⟨n + 1, st2, L2, by omega, rfl, by go_num, HB2.out.below (below_drewN (Below.refl _ _) _)⟩
      · obtain rfl : n = len1 := by omega
        go_wp2_with (go_at_call 10; ((with_reducible refine (awake_any _).mono ?_); rintro e W3 ⟨rfl, hb3⟩))
        go_ret
        exact ⟨rfl, hB.b.trans (hb3.mono hB.b.size)⟩
  · have ch : Calls Try.prog 9 #[.slice a1 len1 cap1] w fun e w' => ∃ h : Int, 0 < h ∧ e = .returned (.int .i64 h) ∧ Below w.heap.size w w' := chh.mono fun e w' h => by
      rcases h with ⟨hb, ⟨hl', he⟩ | ⟨_, h, hp, he⟩⟩
      · exact absurd hl' hl
      · exact ⟨h, hp, he, hb⟩
    clear chh hl
    go_enter Try.func3, Try.ntmps3
    go_wp2_with (first
      | (go_at_call 9; ((with_reducible refine ch.mono ?_); clear ch; rintro e W2 ⟨h, hp, rfl, hb⟩))
      | (go_at_call 10; ((with_reducible refine (awake_any _).mono ?_); rintro e W3 ⟨rfl, hb3⟩)))
    go_ret
    exact ⟨rfl, hb.trans (hb3.mono hb.size)⟩

set_option maxRecDepth 100000 in
theorem lifted (os : Os) (started : os.Started) (H : Type) (enc : TypeId × Value → H) :
    ReturnsInHanded {} Try.checked os 3 .any (Rows.arenaPlaysSpec.pre6 enc Try.prog Try.f3 Rows.arenaPlaysRow.domain false) (Rows.arenaPlaysSpec.post enc Try.prog Try.f3 false true false false) := by
  refine returnsInHanded_of_change (C := Try.checked) own started (by kernel_rfl) Try.func3
    (ChangeSpec.witness6 (enc := enc) (C := Try.checked) false ⟨#[], #[.int .i64 0, .slice none 0 0], []⟩ 8 (by kernel_rfl) (by kernel_rfl) (by kernel_rfl) (by kernel_rfl)) ?_
  intro W base args ds gs before hval0 hW hcnd _
  have hval : ∀ (j : Nat) t v, Try.f3.params[j]? = some t → args[j]? = some v → Value.okWide Try.prog W .any base t v := hval0
  have hW' := hW
  obtain ⟨p, q, hA0, hV, rfl, hfz, hnd⟩ := hW
  have hA : DataW.TrodAll enc Try.prog W 0 (fun _ => true) true Try.f3.params.toList args.toList ds p := hA0
  rw [Try.params3] at hA hval
  obtain ⟨v0, vs0, d0, ds0, p0, q0, hargs, rfl, rfl, h0, r0⟩ := trodAll_cons hA
  obtain ⟨v1, vs1, d1, ds1, p1, q1, rfl, rfl, rfl, h1, r1⟩ := trodAll_cons r0
  obtain ⟨rfl, rfl, rfl⟩ := trodAll_nil r1
  obtain rfl : args = #[v0, v1] := by cases args; simp_all
  obtain ⟨rfl, rfl⟩ := trodVars_none hV
  have k0 := h0
  have lt0 : ∀ x ∈ p0, x.block < W.heap.size := by obtain ⟨m, hm⟩ := k0; exact DataW.trod_lt m _ _ _ hm
  obtain ⟨a0, rfl, rfl, rfl, w0⟩ := open_int Try.underlying3 (hval 0 3 v0 rfl rfl) h0
  have k1 := h1
  have lt1 : ∀ x ∈ p1, x.block < W.heap.size := by obtain ⟨m, hm⟩ := k1; exact DataW.trod_lt m _ _ _ hm
  obtain ⟨b1, l1, c1, rfl⟩ := okWide_slice Try.underlying22 (hval 1 22 v1 rfl rfl)
  obtain ⟨a1, len1, cap1, z1, e1, w1⟩ := open_calls (enc := enc) (w := W) (v := .slice b1 l1 c1) (fuel := h1.choose) (by simpa [Value.cells] using h1.choose_spec)
  rw [e1] at hval k1 h1 hW' hval0 hA0
  clear hA0 hval0
  rw [e1]; refine (walk a0 a1 len1 cap1 z1 W w0 w1).mono fun e W' ⟨he, bel⟩ => ?_
  subst he
  exact ⟨_, rfl, _, _, _, [], _, [], hW', trodAll_mk1 (shut_bool Try.underlying4 _), (trodAll_cons_mk (Below.trod laidOut (by kernel_rfl) (of_decide_eq_true (by kernel_rfl)) k0 bel lt0) (trodAll_cons_mk (Below.trod laidOut (by kernel_rfl) (of_decide_eq_true (by kernel_rfl)) k1 bel lt1) trodAll_mk0)), rfl, bel.frame _, fun h => by cases h⟩

theorem over : Rows.arenaPlaysRow.holds Try.pinned (OpenSpec.ofChange Rows.arenaPlaysSpec) :=
  OpenClaim.holds_of_wide 3 Try.f3 rfl rfl rfl rfl rfl rfl rfl ⟨rfl, rfl, rfl, rfl, rfl⟩ rfl rfl rfl rfl rfl (by kernel_rfl) Try.func3 (by kernel_rfl)
    (of_decide_eq_true (by kernel_rfl)) (by unfold Func.isWrapper; first | (rw [if_pos (by decide +kernel)]; kernel_rfl) | (rw [if_neg (by decide +kernel)]; exact ⟨rfl, rfl⟩))
    (fun os started H enc _ => lifted os started H enc)

theorem arenaPlaysHolds : Rows.ArenaPlaysSaid := over
#print axioms arenaPlaysHolds
end Go.Proofs.Ytighdfmjmmphaaa.arenaPlays
