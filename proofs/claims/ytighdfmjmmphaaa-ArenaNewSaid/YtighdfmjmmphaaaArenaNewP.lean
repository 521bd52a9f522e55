/- 'osierlaw2.ArenaNew' returns true for every slice of Calls, every slice of int64 and every int64 (nil, empty, of any length), and the slices read afterwards as before. No condition. -/
import Derived.Test.YtighdfmjmmphaaaRows
import Derived.Test.YtighdfmjmmphaaaHeavy
import Derived.LoopTactic
import Derived.WalkKit
import Derived.ProofKit
import Derived.OpenShut
import Derived.ChangeOld
import Derived.Below
namespace Go.Proofs.Ytighdfmjmmphaaa.arenaNew
open Go.ChangeShapes Go.WideShapes Go.ChangeAt Go.RowKit
set_option linter.unusedVariables false

theorem own : ownKnob Try.prog.godebug = none := by kernel_rfl
theorem laidOut : laidOutB Try.prog = true := by kernel_rfl

theorem vals_at {w : World} {a : Option Addr} {cap : Nat} {vs : List Int} (h : Vals w a cap vs) (n : Nat) (hn : n < vs.length) : ∃ b o, a = some ⟨b, o, none⟩ ∧ w.cell? ⟨b, o + n, none⟩ = some (.int .i64 (vs.getD n 0)) := by
  cases a with
  | none => have := (h.2.1 rfl).1; subst this; simp at hn
  | some x =>
    obtain ⟨b, o, spot⟩ := x
    have h0 := h.2.2 _ rfl 0 (by omega)
    have hs : spot = none := by simpa [Addr.add] using World.cell?_spot h0
    subst hs
    have := h.2.2 _ rfl n hn
    rw [add_lit] at this
    exact ⟨b, o, rfl, this⟩

theorem two_cell (vs : List Int) : cellL [(5, vs), (0, [0])] 2 = some 0 := rfl

theorem make_arg_held {w0 w : World} {p : Nat} {room st : Int} {l : List It} (h : Held w0 w p room st l) (k : Int) (ao : Option Addr) (n c : Nat) (hn : n ≤ maxLen) (hk : k < 1 ∨ 12 < n) :
    Calls Try.prog 13 #[.pointer (some ⟨p, 0, none⟩), .int .i64 k, .slice ao n c] w fun e w' => e = .returned (.tuple #[.int .i64 0, .int .i64 1]) ∧ Held w0 w' p room st l :=
  (make_held_arg h k ao n c hn hk).mono fun e w' ⟨he, hw⟩ => ⟨he, hw ▸ h⟩

/-- The first record and the first cell are as they were made. -/
structure Inv (vs : List Int) (v : Int) (L : List It) : Prop where
  i0 : L[0]? = some (5, vs)
  i1 : L[1]? = some (0, [v])
theorem Inv.len {vs : List Int} {v : Int} {L : List It} (h : Inv vs v L) : 2 ≤ L.length := by
  have := (List.getElem?_eq_some_iff.1 h.i1).1; omega
theorem Inv.more {vs : List Int} {v : Int} {L : List It} (h : Inv vs v L) (x : It) : Inv vs v (L ++ [x]) := by
  have hl := h.len
  exact ⟨by rw [List.getElem?_append_left (by omega)]; exact h.i0, by rw [List.getElem?_append_left (by omega)]; exact h.i1⟩
theorem Inv.kind {vs : List Int} {v : Int} {L : List It} (h : Inv vs v L) : kindL L 1 = 5 := by
  unfold kindL itemAt; rw [if_neg (by decide)]; show ((L[0]?).map (·.1)).getD 0 = 5; rw [h.i0]; rfl
theorem Inv.cell {vs : List Int} {v : Int} {L : List It} (h : Inv vs v L) : cellL L 2 = some v := by
  unfold cellL itemAt; rw [if_neg (by decide)]; show (match L[1]? with | none => none | some x => if x.1 = 0 then x.2.head? else none) = some v; rw [h.i1]; rfl
theorem Inv.val {vs : List Int} {v : Int} {L : List It} (h : Inv vs v L) (i : Nat) (hi : i < vs.length) (u : Int) (hu : vs.getD i 0 = u) : valL L 1 (i : Int) = u := by
  unfold valL itemAt
  rw [if_neg (by decide)]
  show (match L[0]? with | none => 0 | some x => if x.1 = 0 ∨ (i : Int) < 0 ∨ (x.2.length : Int) ≤ (i : Int) then 0 else x.2.getD (i : Int).toNat 0) = u
  rw [h.i0]
  show (if (5 : Int) = 0 ∨ (i : Int) < 0 ∨ (vs.length : Int) ≤ (i : Int) then 0 else vs.getD (i : Int).toNat 0) = u
  rw [if_neg (by omega), Int.toNat_natCast]
  exact hu
theorem Inv.once {vs : List Int} {v : Int} {L : List It} (h : Inv vs v L) (hv : v ≠ 0) (y : Int) : decide (cellL L 2 = some 0 ∧ y ≠ 0) = false ∧ onceL L 2 y = L := by
  unfold onceL
  rw [h.cell]
  simp [hv]

set_option maxRecDepth 100000 in
set_option maxHeartbeats 12800000 in
theorem walk (a0 : Option Addr) (len0 cap0 : Nat) (z0 : List CallD) (a1 : Option Addr) (cap1 : Nat) (z1 : List Int) (a2 : Int) (w : World) (w0 : ArgCalls w a0 len0 z0) (w1 : Vals w a1 cap1 z1) (w2 : (Lit.int .i64 a2).wf = true) :
    Calls Try.prog 5 #[.slice a0 len0 cap0, .slice a1 z1.length cap1, .int .i64 a2] w fun e w' => e = .returned (.bool true) ∧ Below w.heap.size w w' := by
  have hz1 := w1.1
  have W1 := Lib.hid w1
  have hz0 := w0.2.1
  have W0 := Lib.hid w0
  have chh := heavy_any w a0 len0 cap0 z0 w0
  clear w0 w1
  unfold maxLen at hz1 hz0
  by_cases hl : Light z0
  · have ch : Calls Try.prog 9 #[.slice a0 len0 cap0] w fun e w' => e = .returned (.int .i64 0) ∧ Below w.heap.size w w' := chh.mono fun e w' h => by
      rcases h with ⟨hb, ⟨_, he⟩ | ⟨hn, _⟩⟩
      · exact ⟨he, hb⟩
      · exact absurd hl hn
    have HL := Lib.hid hl
    clear chh hl
    by_cases h12 : 12 < z1.length
    · have h12' : (12 : Int) < (z1.length : Int) := by omega
      go_enter Try.func5, Try.ntmps5
      go_wp2_with (first
        | (go_at_call 9; ((with_reducible refine ch.mono ?_); clear ch; rintro e W2 ⟨rfl, hb⟩))
        | (go_at_call 10; ((with_reducible refine (awake_any _).mono ?_); rintro e W3 ⟨rfl, hb3⟩)))
      go_ret
      exact ⟨rfl, hb.trans (hb3.mono hb.size)⟩
    · have h12' : ¬ (12 : Int) < (z1.length : Int) := by omega
      by_cases hv : a2 = 0
      · subst hv
        go_enter Try.func5, Try.ntmps5
        go_wp2_with (first
          | (go_at_call 9; ((with_reducible refine ch.mono ?_); clear ch; rintro e W2 ⟨rfl, hb⟩))
          | (go_at_call 10; ((with_reducible refine (awake_any _).mono ?_); rintro e W3 ⟨rfl, hb3⟩)))
        go_ret
        exact ⟨rfl, hb.trans (hb3.mono hb.size)⟩
      · have hv1 : (a2 == 0) = false := by simp [hv]
        have hvl : onceL [(5, z1), (0, [0])] 2 a2 = [(5, z1), (0, [a2])] := by
          unfold onceL
          rw [if_pos ⟨rfl, hv⟩]
          rfl
        have HV := Lib.hid hv
        have HVL := Lib.hid hvl
        clear hv hvl
        go_enter Try.func5, Try.ntmps5
        go_wp2_with (first
          | (go_at_call 9; ((with_reducible refine ch.mono ?_); clear ch; rintro e W2 ⟨rfl, hb⟩))
          | (go_at_call 11; have cc := new_held 1000 1000 w _ hb (by decide); ((with_reducible refine cc.mono ?_); clear cc; rintro e W3 ⟨p, rfl, h1⟩; clear hb))
          | (go_at_call 13; have cc := make_held h1 5 z1 _ 1 [(5, z1)] (by decide) (by omega) (W1.out.ints h1.b (fun b hb => by omega)) (by decide) rfl rfl; ((with_reducible refine cc.mono ?_); clear cc; rintro e W4 ⟨rfl, h2⟩; clear h1))
          | (go_at_call 15; have cc := cell_held h2 0 2 [(5, z1), (0, [0])] (by simp) rfl rfl; ((with_reducible refine cc.mono ?_); clear cc; rintro e W5 ⟨rfl, h3⟩; clear h2))
          | (go_at_call 21; have cc := once_held h3 2 a2 true 1 [(5, z1), (0, [a2])] (by rw [two_cell]; exact decide_eq_true ⟨rfl, HV.out⟩) (by rw [two_cell]; decide +kernel) HVL.out; ((with_reducible refine cc.mono ?_); clear cc; rintro e W6 ⟨rfl, h4⟩; clear h3)))
        go_loopw [12, 60] (fun last i wr => ∃ (n : Nat) (st : Int) (L : List It), n ≤ len0 ∧ i = .int .i64 n ∧ last = .int .i64 L.length ∧ Inv z1 a2 L ∧ L.length ≤ n + 2 ∧ Held w wr p 1000 st L) (fun _ i _ => len0 - (intOf i).toNat)
        case atStart => exact ⟨0, _, _, Nat.zero_le _, rfl, rfl, ⟨rfl, rfl⟩, by simp, h4⟩
        case round =>
          clear h4
          obtain ⟨n, st, L, hn, rfl, rfl, hI, hLn, hH⟩ := hrel
          have HI := Lib.hid hI
          clear hI
          by_cases hlt : n < len0
          · obtain ⟨c, hc⟩ : ∃ c, z0[n]? = some c := ⟨_, List.getElem?_eq_getElem (by rw [W0.out.1]; exact hlt)⟩
            obtain ⟨b, o, va, vc, rfl, hat⟩ := W0.out.2.2 n c hc
            have hn200 : n < 200 := by have := HL.out.1; have := W0.out.1; omega
            obtain ⟨c0, c1, c2, c3, c4, c5⟩ := hat.below hH.b
            have hvs := hat.vs
            clear hat hc
            obtain ⟨d, k, id, old, now, vs⟩ := c
            dsimp only at c0 c1 c2 c3 c4 c5 hvs
            have hvs1 := hvs.1
            have HVS := Lib.hid hvs
            clear hvs
            have hroom : (L.length : Int) < 1000 := by omega
            by_cases hd0 : d = 0
            · subst hd0
              by_cases hbad : k < 1 ∨ 12 < vs.length
              · have cc := fun W (hW : Held w W p 1000 st L) => make_arg_held hW k va vs.length vc hvs1 hbad
                clear hbad
                unfold maxLen at hvs1
                have HH := Lib.hid hH
                clear hH
                go_wp2_with (first
                  | (go_at_call 13; ((with_reducible refine (cc _ (HH.out.alloc _)).mono ?_); clear cc; rintro e W5 ⟨rfl, h5⟩; have HI5 := HI))
                  | (go_at_call 25; have cc := kind_held h5 1 5 HI5.out.kind; ((with_reducible refine cc.mono ?_); clear cc; rintro e W6 ⟨rfl, h6⟩; clear h5))
                  | (go_at_call 17; have cc := load_held h6 2 a2 _ (by rw [HI5.out.cell]; rfl) rfl; ((with_reducible refine cc.mono ?_); clear cc; rintro e W7 ⟨rfl, h7⟩; clear h6)))
                go_loopw [113] (fun i wr2 => ∃ (j : Nat) (st7 : Int), j ≤ z1.length ∧ i = .int .i64 j ∧ Held w wr2 p 1000 st7 L) (fun i _ => z1.length - (intOf i).toNat)
                case atStart => exact ⟨0, _, Nat.zero_le _, rfl, h7⟩
                case round =>
                  clear h7
                  obtain ⟨j, st7, hj, rfl, h7⟩ := hrel
                  by_cases hjl : j < z1.length
                  · obtain ⟨u, hu⟩ : ∃ u, z1.getD j 0 = u := ⟨_, rfl⟩
                    obtain ⟨b2, o2, rfl, hcu⟩ := vals_at W1.out j hjl
                    have hcu := h7.old hcu
                    rw [hu] at hcu
                    have cc := val_held h7 1 (j : Int) u (HI5.out.val j hjl u hu)
                    clear hu
                    go_wp2_with (go_at_call 23; ((with_reducible refine cc.mono ?_); clear cc; rintro e W8 ⟨rfl, h8⟩))
                    go_roundw
                    case rel => exact ⟨j + 1, _, by omega, by go_num, h8⟩
                    case measure => simp [intOf]; omega
                  · go_wp2_with (fail)
                    go_roundw
                    case rel => exact ⟨n + 1, _, L, by omega, by go_num, rfl, HI5.out, by omega, h7⟩
                    case measure => simp [intOf]; omega
              · have hk1 : 1 ≤ k := by omega
                have hv12 : vs.length ≤ 12 := by omega
                have cc0 := fun W (hW : Held w W p 1000 st L) => make_held hW k vs _ ((L.length : Int) + 1) _ hk1 hv12 (HVS.out.ints hW.b (fun b hb => by omega)) hroom rfl rfl
                clear hbad hk1 hv12
                unfold maxLen at hvs1
                have HH := Lib.hid hH
                clear hH
                go_wp2_with (first
                  | (go_at_call 13; ((with_reducible refine (cc0 _ (HH.out.alloc _)).mono ?_); clear cc0; rintro e W5 ⟨rfl, h5⟩; have HI5 := Lib.hid (HI.out.more (k, vs))))
                  | (go_at_call 25; have cc := kind_held h5 1 5 HI5.out.kind; ((with_reducible refine cc.mono ?_); clear cc; rintro e W6 ⟨rfl, h6⟩; clear h5))
                  | (go_at_call 17; have cc := load_held h6 2 a2 _ (by rw [HI5.out.cell]; rfl) rfl; ((with_reducible refine cc.mono ?_); clear cc; rintro e W7 ⟨rfl, h7⟩; clear h6)))
                go_loopw [113] (fun i wr2 => ∃ (j : Nat) (st7 : Int), j ≤ z1.length ∧ i = .int .i64 j ∧ Held w wr2 p 1000 st7 (L ++ [(k, vs)])) (fun i _ => z1.length - (intOf i).toNat)
                case atStart => exact ⟨0, _, Nat.zero_le _, rfl, h7⟩
                case round =>
                  clear h7
                  obtain ⟨j, st7, hj, rfl, h7⟩ := hrel
                  by_cases hjl : j < z1.length
                  · obtain ⟨u, hu⟩ : ∃ u, z1.getD j 0 = u := ⟨_, rfl⟩
                    obtain ⟨b2, o2, rfl, hcu⟩ := vals_at W1.out j hjl
                    have hcu := h7.old hcu
                    rw [hu] at hcu
                    have cc := val_held h7 1 (j : Int) u (HI5.out.val j hjl u hu)
                    clear hu
                    go_wp2_with (go_at_call 23; ((with_reducible refine cc.mono ?_); clear cc; rintro e W8 ⟨rfl, h8⟩))
                    go_roundw
                    case rel => exact ⟨j + 1, _, by omega, by go_num, h8⟩
                    case measure => simp [intOf]; omega
                  · go_wp2_with (fail)
                    go_roundw
                    case rel => exact ⟨n + 1, _, (L ++ [(k, vs)]), by omega, by go_num, by simp, HI5.out, by simp; omega, h7⟩
                    case measure => simp [intOf]; omega
            · by_cases hd1 : d = 1
              · subst hd1
                have cc0 := fun W (hW : Held w W p 1000 st L) => cell_held hW now ((L.length : Int) + 1) _ hroom rfl rfl
                unfold maxLen at hvs1
                have HH := Lib.hid hH
                clear hH hd0
                go_wp2_with (first
                  | (go_at_call 15; ((with_reducible refine (cc0 _ (HH.out.alloc _)).mono ?_); clear cc0; rintro e W5 ⟨rfl, h5⟩; have HI5 := Lib.hid (HI.out.more (0, [now]))))
                  | (go_at_call 25; have cc := kind_held h5 1 5 HI5.out.kind; ((with_reducible refine cc.mono ?_); clear cc; rintro e W6 ⟨rfl, h6⟩; clear h5))
                  | (go_at_call 17; have cc := load_held h6 2 a2 _ (by rw [HI5.out.cell]; rfl) rfl; ((with_reducible refine cc.mono ?_); clear cc; rintro e W7 ⟨rfl, h7⟩; clear h6)))
                go_loopw [113] (fun i wr2 => ∃ (j : Nat) (st7 : Int), j ≤ z1.length ∧ i = .int .i64 j ∧ Held w wr2 p 1000 st7 (L ++ [(0, [now])])) (fun i _ => z1.length - (intOf i).toNat)
                case atStart => exact ⟨0, _, Nat.zero_le _, rfl, h7⟩
                case round =>
                  clear h7
                  obtain ⟨j, st7, hj, rfl, h7⟩ := hrel
                  by_cases hjl : j < z1.length
                  · obtain ⟨u, hu⟩ : ∃ u, z1.getD j 0 = u := ⟨_, rfl⟩
                    obtain ⟨b2, o2, rfl, hcu⟩ := vals_at W1.out j hjl
                    have hcu := h7.old hcu
                    rw [hu] at hcu
                    have cc := val_held h7 1 (j : Int) u (HI5.out.val j hjl u hu)
                    clear hu
                    go_wp2_with (go_at_call 23; ((with_reducible refine cc.mono ?_); clear cc; rintro e W8 ⟨rfl, h8⟩))
                    go_roundw
                    case rel => exact ⟨j + 1, _, by omega, by go_num, h8⟩
                    case measure => simp [intOf]; omega
                  · go_wp2_with (fail)
                    go_roundw
                    case rel => exact ⟨n + 1, _, (L ++ [(0, [now])]), by omega, by go_num, by simp, HI5.out, by simp; omega, h7⟩
                    case measure => simp [intOf]; omega
              · by_cases hd4 : d = 4
                · subst hd4
                  have cc0 := fun W (hW : Held w W p 1000 st L) => once_held hW 2 now false _ L (HI.out.once HV.out now).1 rfl (HI.out.once HV.out now).2
                  unfold maxLen at hvs1
                  have HH := Lib.hid hH
                  clear hH hd0 hd1
                  go_wp2_with (first
                    | (go_at_call 21; ((with_reducible refine (cc0 _ (HH.out.alloc _)).mono ?_); clear cc0; rintro e W5 ⟨rfl, h5⟩; have HI5 := HI))
                    | (go_at_call 25; have cc := kind_held h5 1 5 HI5.out.kind; ((with_reducible refine cc.mono ?_); clear cc; rintro e W6 ⟨rfl, h6⟩; clear h5))
                    | (go_at_call 17; have cc := load_held h6 2 a2 _ (by rw [HI5.out.cell]; rfl) rfl; ((with_reducible refine cc.mono ?_); clear cc; rintro e W7 ⟨rfl, h7⟩; clear h6)))
                  go_loopw [113] (fun i wr2 => ∃ (j : Nat) (st7 : Int), j ≤ z1.length ∧ i = .int .i64 j ∧ Held w wr2 p 1000 st7 L) (fun i _ => z1.length - (intOf i).toNat)
                  case atStart => exact ⟨0, _, Nat.zero_le _, rfl, h7⟩
                  case round =>
                    clear h7
                    obtain ⟨j, st7, hj, rfl, h7⟩ := hrel
                    by_cases hjl : j < z1.length
                    · obtain ⟨u, hu⟩ : ∃ u, z1.getD j 0 = u := ⟨_, rfl⟩
                      obtain ⟨b2, o2, rfl, hcu⟩ := vals_at W1.out j hjl
                      have hcu := h7.old hcu
                      rw [hu] at hcu
                      have cc := val_held h7 1 (j : Int) u (HI5.out.val j hjl u hu)
                      clear hu
                      go_wp2_with (go_at_call 23; ((with_reducible refine cc.mono ?_); clear cc; rintro e W8 ⟨rfl, h8⟩))
                      go_roundw
                      case rel => exact ⟨j + 1, _, by omega, by go_num, h8⟩
                      case measure => simp [intOf]; omega
                    · go_wp2_with (fail)
                      go_roundw
                      case rel => exact ⟨n + 1, _, L, by omega, by go_num, rfl, HI5.out, by omega, h7⟩
                      case measure => simp [intOf]; omega
                · have e0 : (d == 0) = false := by simp [hd0]
                  have e1 : (d == 1) = false := by simp [hd1]
                  have e4 : (d == 4) = false := by simp [hd4]
                  unfold maxLen at hvs1
                  have HH := Lib.hid hH
                  have ck := fun W (hW : Held w W p 1000 st L) => kind_held hW 1 5 HI.out.kind
                  clear hH hd0 hd1 hd4
                  go_wp2_with (first
                    | (go_at_call 25; ((with_reducible refine (ck _ (HH.out.alloc _)).mono ?_); clear ck; rintro e W6 ⟨rfl, h6⟩))
                    | (go_at_call 17; have cc := load_held h6 2 a2 _ (by rw [HI.out.cell]; rfl) rfl; ((with_reducible refine cc.mono ?_); clear cc; rintro e W7 ⟨rfl, h7⟩; clear h6)))
                  go_loopw [113] (fun i wr2 => ∃ (j : Nat) (st7 : Int), j ≤ z1.length ∧ i = .int .i64 j ∧ Held w wr2 p 1000 st7 L) (fun i _ => z1.length - (intOf i).toNat)
                  case atStart => exact ⟨0, _, Nat.zero_le _, rfl, h7⟩
                  case round =>
                    clear h7
                    obtain ⟨j, st7, hj, rfl, h7⟩ := hrel
                    by_cases hjl : j < z1.length
                    · obtain ⟨u, hu⟩ : ∃ u, z1.getD j 0 = u := ⟨_, rfl⟩
                      obtain ⟨b2, o2, rfl, hcu⟩ := vals_at W1.out j hjl
                      have hcu := h7.old hcu
                      rw [hu] at hcu
                      have cc := val_held h7 1 (j : Int) u (HI.out.val j hjl u hu)
                      clear hu
                      go_wp2_with (go_at_call 23; ((with_reducible refine cc.mono ?_); clear cc; rintro e W8 ⟨rfl, h8⟩))
                      go_roundw
                      case rel => exact ⟨j + 1, _, by omega, by go_num, h8⟩
                      case measure => simp [intOf]; omega
                    · go_wp2_with (fail)
                      go_roundw
                      case rel => exact ⟨n + 1, _, L, by omega, by go_num, rfl, HI.out, by omega, h7⟩
                      case measure => simp [intOf]; omega
          · obtain rfl : n = len0 := by omega
            have cu := used_held hH (L.length : Int) rfl
            go_wp2_with (first
              | (go_at_call 27; ((with_reducible refine cu.mono ?_); clear cu; rintro e W6 ⟨rfl, rfl⟩))
              | (go_at_call 10; ((with_reducible refine (awake_any _).mono ?_); rintro e W7 ⟨rfl, hb⟩)))
            go_ret
            exact ⟨rfl, (hH.below hb).b⟩
  · have ch : Calls Try.prog 9 #[.slice a0 len0 cap0] w fun e w' => ∃ h : Int, 0 < h ∧ e = .returned (.int .i64 h) ∧ Below w.heap.size w w' := chh.mono fun e w' h => by
      rcases h with ⟨hb, ⟨hl', he⟩ | ⟨_, h, hp, he⟩⟩
      · exact absurd hl' hl
      · exact ⟨h, hp, he, hb⟩
    clear chh hl
    go_enter Try.func5, Try.ntmps5
    go_wp2_with (first
      | (go_at_call 9; ((with_reducible refine ch.mono ?_); clear ch; rintro e W2 ⟨h, hp, rfl, hb⟩))
      | (go_at_call 10; ((with_reducible refine (awake_any _).mono ?_); rintro e W3 ⟨rfl, hb3⟩)))
    go_ret
    exact ⟨rfl, hb.trans (hb3.mono hb.size)⟩

set_option maxRecDepth 100000 in
theorem lifted (os : Os) (started : os.Started) (H : Type) (enc : TypeId × Value → H) :
    ReturnsInHanded {} Try.checked os 5 .any (Rows.arenaNewSpec.pre6 enc Try.prog Try.f5 Rows.arenaNewRow.domain false) (Rows.arenaNewSpec.post enc Try.prog Try.f5 false true false false) := by
  refine returnsInHanded_of_change (C := Try.checked) own started (by kernel_rfl) Try.func5
    (ChangeSpec.witness6 (enc := enc) (C := Try.checked) false ⟨#[], #[.slice none 0 0, .slice none 0 0, .int .i64 0], []⟩ 8 (by kernel_rfl) (by kernel_rfl) (by kernel_rfl) (by kernel_rfl)) ?_
  intro W base args ds gs before hval0 hW hcnd _
  have hval : ∀ (j : Nat) t v, Try.f5.params[j]? = some t → args[j]? = some v → Value.okWide Try.prog W .any base t v := hval0
  have hW' := hW
  obtain ⟨p, q, hA0, hV, rfl, hfz, hnd⟩ := hW
  have hA : DataW.TrodAll enc Try.prog W 0 (fun _ => true) true Try.f5.params.toList args.toList ds p := hA0
  rw [Try.params5] at hA hval
  obtain ⟨v0, vs0, d0, ds0, p0, q0, hargs, rfl, rfl, h0, r0⟩ := trodAll_cons hA
  obtain ⟨v1, vs1, d1, ds1, p1, q1, rfl, rfl, rfl, h1, r1⟩ := trodAll_cons r0
  obtain ⟨v2, vs2, d2, ds2, p2, q2, rfl, rfl, rfl, h2, r2⟩ := trodAll_cons r1
  obtain ⟨rfl, rfl, rfl⟩ := trodAll_nil r2
  obtain rfl : args = #[v0, v1, v2] := by cases args; simp_all
  obtain ⟨rfl, rfl⟩ := trodVars_none hV
  have k0 := h0
  have lt0 : ∀ x ∈ p0, x.block < W.heap.size := by obtain ⟨m, hm⟩ := k0; exact DataW.trod_lt m _ _ _ hm
  obtain ⟨b0, l0, c0, rfl⟩ := okWide_slice Try.underlying22 (hval 0 22 v0 rfl rfl)
  obtain ⟨a0, len0, cap0, z0, e0, w0⟩ := open_calls (enc := enc) (w := W) (v := .slice b0 l0 c0) (fuel := h0.choose) (by simpa [Value.cells] using h0.choose_spec)
  rw [e0] at hval k0 h0 hW' hval0 hA0
  have k1 := h1
  have lt1 : ∀ x ∈ p1, x.block < W.heap.size := by obtain ⟨m, hm⟩ := k1; exact DataW.trod_lt m _ _ _ hm
  obtain ⟨b1, l1, c1, rfl⟩ := okWide_slice Try.underlying29 (hval 1 29 v1 rfl rfl)
  obtain ⟨a1, cap1, z1, e1, w1⟩ := open_vals (enc := enc) (w := W) (v := .slice b1 l1 c1) (fuel := h1.choose) (by simpa [Value.cells] using h1.choose_spec)
  rw [e1] at hval k1 h1 hW' hval0 hA0
  have k2 := h2
  have lt2 : ∀ x ∈ p2, x.block < W.heap.size := by obtain ⟨m, hm⟩ := k2; exact DataW.trod_lt m _ _ _ hm
  obtain ⟨a2, rfl, rfl, rfl, w2⟩ := open_int Try.underlying3 (hval 2 3 v2 rfl rfl) h2
  clear hA0 hval0
  rw [e0]; rw [e1]; refine (walk a0 len0 cap0 z0 a1 cap1 z1 a2 W w0 w1 w2).mono fun e W' ⟨he, bel⟩ => ?_
  subst he
  exact ⟨_, rfl, _, _, _, [], _, [], hW', trodAll_mk1 (shut_bool Try.underlying4 _), (trodAll_cons_mk (Below.trod laidOut (by kernel_rfl) (of_decide_eq_true (by kernel_rfl)) k0 bel lt0) (trodAll_cons_mk (Below.trod laidOut (by kernel_rfl) (of_decide_eq_true (by kernel_rfl)) k1 bel lt1) (trodAll_cons_mk (Below.trod laidOut (by kernel_rfl) (of_decide_eq_true (by kernel_rfl)) k2 bel lt2) trodAll_mk0))), rfl, bel.frame _, fun h => by cases h⟩

theorem over : Rows.arenaNewRow.holds Try.pinned (OpenSpec.ofChange Rows.arenaNewSpec) :=
  OpenClaim.holds_of_wide 5 Try.f5 rfl rfl rfl rfl rfl rfl rfl ⟨rfl, rfl, rfl, rfl, rfl⟩ rfl rfl rfl rfl rfl (by kernel_rfl) Try.func5 (by kernel_rfl)
    (of_decide_eq_true (by kernel_rfl)) (by unfold Func.isWrapper; first | (rw [if_pos (by decide +kernel)]; kernel_rfl) | (rw [if_neg (by decide +kernel)]; exact ⟨rfl, rfl⟩))
    (fun os started H enc _ => lifted os started H enc)

theorem arenaNewHolds : Rows.ArenaNewSaid := over
#print axioms arenaNewHolds
end Go.Proofs.Ytighdfmjmmphaaa.arenaNew
