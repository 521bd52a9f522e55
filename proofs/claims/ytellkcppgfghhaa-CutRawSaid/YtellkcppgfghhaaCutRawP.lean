/- 'osierlaw6.CutRaw' returns true for every slice of slices of integers and every two integers. No condition. -/
import Derived.Test.YtellkcppgfghhaaRows
import Derived.Test.YtellkcppgfghhaaCtR
import Derived.Test.YtellkcppgfghhaaCtAwk
import Derived.Test.YtellkcppgfghhaaNRows
import Derived.LoopTactic
import Derived.WalkKit
import Derived.ProofKit
import Derived.OpenShut
import Derived.ChangeOld
import Derived.Below
namespace Go.Proofs.Ytellkcppgfghhaa.cutRaw
open Go.ChangeShapes Go.WideShapes Go.ChangeAt Go.RowKit
set_option linter.all false

theorem own : ownKnob Try.prog.godebug = none := by kernel_rfl
theorem laidOut : laidOutB Try.prog = true := by kernel_rfl

/-- The items that are made of the rows. -/
def rowItems (z : List IRow) : List It := z.map (fun r => ((1 : Int), r.vs))
theorem rowItems_take {z : List IRow} {n : Nat} {r : IRow} (h : z[n]? = some r) : rowItems (z.take (n + 1)) = rowItems (z.take n) ++ [((1 : Int), r.vs)] := by
  unfold rowItems; rw [List.take_succ, h, List.map_append]; rfl
theorem rowItems_len (z : List IRow) (n : Nat) (h : n ≤ z.length) : (rowItems (z.take n)).length = n := by
  unfold rowItems; rw [List.length_map, List.length_take]; omega
theorem rowItems_val {z : List IRow} {n : Nat} {r : IRow} (h : z[n]? = some r) (M : List It) {j : Nat} {v : Int} (hv : r.vs[j]? = some v) : valL (rowItems z ++ M) ((n : Int) + 1) (j : Int) = v := by
  have hi : itemAt (rowItems z ++ M) ((n : Int) + 1) = some (1, r.vs) := by
    refine itemAt_app ?_ M
    unfold itemAt rowItems
    rw [if_neg (by omega), show ((n : Int) + 1 - 1).toNat = n by omega, List.getElem?_map, h]
    rfl
  have hlt := (List.getElem?_eq_some_iff.1 hv).1
  unfold valL
  rw [hi]
  dsimp only
  rw [if_neg (by omega), Int.toNat_natCast, List.getD_eq_getElem?_getD, hv]
  rfl
theorem rowItems_wide {z : List IRow} (h : ∀ (n : Nat) (r : IRow), z[n]? = some r → ∀ v ∈ r.vs, (Lit.int .i64 v).wf = true) : Wide (rowItems z) := by
  intro it hit v hv
  unfold rowItems at hit
  obtain ⟨r, hr, rfl⟩ := List.mem_map.1 hit
  obtain ⟨n, hn⟩ := List.getElem?_of_mem hr
  exact wf_range (h n r hn v hv)

set_option maxRecDepth 100000 in
set_option maxHeartbeats 12800000 in
theorem walk (a0 : Option Addr) (len0 cap0 : Nat) (z0 : List IRow) (a1 : Int) (a2 : Int) (w : World) (w0 : IRows w a0 len0 cap0 z0) (w1 : (Lit.int .i64 a1).wf = true) (w2 : (Lit.int .i64 a2).wf = true) :
    Calls Try.prog 5 #[.slice a0 len0 cap0, .int .i64 a1, .int .i64 a2] w fun e w' => e = .returned (.bool true) ∧ Below w.heap.size w w' := by
  have hc0 := w0.1
  have hc1 := w0.2.1
  have hc2 := w0.2.2.1
  have W0 := Lib.hid w0
  have HC0 := Lib.hid hc0
  have HWD := Lib.hid (rowItems_wide (z := z0) (fun n r hr => by obtain ⟨_, _, _, _, _, hw⟩ := w0.2.2.2 n r hr; exact hw))
  clear w0 hc0
  unfold maxLen at hc2
  by_cases h15 : 15 < len0
  · have h15' : (15 : Int) < (len0 : Int) := by omega
    go_enter Try.func5, Try.ntmps5
    go_wp2_with (go_at_call 15; ((with_reducible refine (cawake_any _).mono ?_); rintro e W9 ⟨rfl, hb9⟩))
    go_ret
    exact ⟨rfl, hb9⟩
  · have h15' : ¬ (15 : Int) < (len0 : Int) := by omega
    go_enter Try.func5, Try.ntmps5
    go_wp2_with (go_at_call 12; ((with_reducible refine (new_held 200 200 w w (Below.refl _ _) (by decide)).mono ?_); rintro e W3 ⟨p, rfl, h1⟩))
    go_loopw [21] (fun i wr => ∃ (n : Nat) (L : List It), n ≤ len0 ∧ i = .int .i64 n ∧ L = rowItems (z0.take n) ∧ L.length = n ∧ Held w wr p 200 0 L) (fun i _ => len0 - (intOf i).toNat)
    case atStart => exact ⟨0, [], Nat.zero_le _, rfl, rfl, rfl, h1⟩
    case round =>
      clear h1
      obtain ⟨n, L, hn, rfl, hLe, hL, hH⟩ := hrel
      have HL := Lib.hid hL
      have HLE := Lib.hid hLe
      clear hLe
      by_cases hlt : n < len0
      · obtain ⟨r, hr⟩ : ∃ r, z0[n]? = some r := ⟨_, List.getElem?_eq_getElem (by rw [HC0.out]; exact hlt)⟩
        obtain ⟨b, o, rfl, c0, hv, hw⟩ := W0.out.2.2.2 n r hr
        have HT := Lib.hid (rowItems_take hr)
        obtain ⟨ra, rc, rv⟩ := r
        dsimp only at c0 hv hw
        replace c0 := hH.old c0
        have hv1 := hv.1
        have HV := Lib.hid hv
        have HH := Lib.hid hH
        clear hr hv hw hH hL
        unfold maxLen at hv1
        by_cases h12 : 12 < rv.length
        · have h12' : (12 : Int) < (rv.length : Int) := by omega
          go_wp2_with (go_at_call 15; ((with_reducible refine (cawake_any _).mono ?_); rintro e W9 ⟨rfl, hb9⟩))
          go_ret
          exact ⟨rfl, HH.out.b.trans (hb9.mono HH.out.b.size)⟩
        · have h12' : ¬ (12 : Int) < (rv.length : Int) := by omega
          go_wp2_with (go_at_call 21; have cc := make_held HH.out 1 rv _ ((L.length : Int) + 1) (L ++ [(1, rv)]) (by decide) (by omega) (HV.out.ints HH.out.b (fun b hb => by omega)) (by rw [HL.out]; omega) rfl rfl; ((with_reducible refine cc.mono ?_); clear cc; rintro e W5 ⟨rfl, h5⟩))
          go_roundw
          case rel => exact ⟨n + 1, _, by omega, by go_num, by rw [HT.out, ← HLE.out], by rw [List.length_append, HL.out]; rfl, h5⟩
          case measure => simp [intOf]; omega
      · obtain rfl : n = len0 := by omega
        have hLz : L = rowItems z0 := by rw [HLE.out, List.take_of_length_le (by rw [HC0.out]; exact Nat.le_refl _)]
        have HLZ := Lib.hid hLz
        have cc := cut_raw hH (by rw [hLz]; exact HWD.out) a1 a2
        have HH := Lib.hid hH
        clear hH hL hLz HL HLE
        go_wp2_with (fail)
        refine cc.mono ?_
        clear cc
        rintro e W6 ⟨n6, o6, e6, b6, M, rfl, h6⟩
        go_wp2_with (fail)
        go_loopw [39] (fun i wz => ∃ (m : Nat), m ≤ n ∧ i = .int .i64 m ∧ Held w wz p 200 0 (L ++ M)) (fun i _ => n - (intOf i).toNat)
        case atStart => exact ⟨0, Nat.zero_le _, rfl, h6⟩
        case round =>
          clear h6 HH
          obtain ⟨m, hm, rfl, h7⟩ := hrel
          by_cases hlt : m < n
          · obtain ⟨r, hr⟩ : ∃ r, z0[m]? = some r := ⟨_, List.getElem?_eq_getElem (by rw [HC0.out]; exact hlt)⟩
            obtain ⟨b, o, rfl, c0, hv, hw⟩ := W0.out.2.2.2 m r hr
            have HVAL := Lib.hid (fun (j : Nat) (v : Int) (hj : r.vs[j]? = some v) => rowItems_val hr M hj)
            obtain ⟨ra, rc, rv⟩ := r
            dsimp only at c0 hv hw
            replace c0 := h7.old c0
            have hv1 := hv.1
            have HV := Lib.hid hv
            have H7 := Lib.hid h7
            clear hr hv hw h7
            unfold maxLen at hv1
            go_wp2_with (fail)
            go_loopw [46] (fun i wz => ∃ (j : Nat), j ≤ rv.length ∧ i = .int .i64 j ∧ Held w wz p 200 0 (L ++ M)) (fun i _ => rv.length - (intOf i).toNat)
            case atStart => exact ⟨0, Nat.zero_le _, rfl, H7.out⟩
            case round =>
              clear H7
              obtain ⟨j, hj, rfl, h8⟩ := hrel
              have H8 := Lib.hid h8
              clear h8
              by_cases hlj : j < rv.length
              · obtain ⟨v, hv⟩ : ∃ v, rv[j]? = some v := ⟨_, List.getElem?_eq_getElem hlj⟩
                have hval : valL (L ++ M) ((m : Int) + 1) (j : Int) = v := by rw [HLZ.out]; exact HVAL.out j v hv
                have HVL := Lib.hid hval
                cases ra with
                | none =>
                  exfalso
                  have := (HV.out.2.1 rfl).1
                  subst this
                  exact Nat.not_lt_zero _ hlj
                | some x =>
                  have c1 := HV.out.2.2 x rfl j hlj
                  rw [show rv.getD j 0 = v by simp [List.getD, hv]] at c1
                  replace c1 := (H8.out.b.cell (World.block_lt_of_cell? w _ c1)).trans c1
                  have hvv : (v != v) = false := by simp
                  clear hv hval
                  go_wp2_with (go_at_call 22; have cc := val_held H8.out ((m : Int) + 1) (j : Int) v HVL.out; ((with_reducible refine cc.mono ?_); clear cc; rintro e W7 ⟨rfl, h9⟩))
                  go_roundw
                  case rel => exact ⟨j + 1, by omega, by go_num, h9⟩
                  case measure => simp [intOf]; omega
              · obtain rfl : j = rv.length := by omega
                go_wp2_with (fail)
                go_roundw
                case rel => exact ⟨m + 1, by omega, by go_num, H8.out⟩
                case measure => simp [intOf]; omega
          · obtain rfl : m = n := by omega
            go_wp2_with (go_at_call 15; ((with_reducible refine (cawake_any _).mono ?_); rintro e W9 ⟨rfl, hb9⟩))
            go_ret
            exact ⟨rfl, h7.b.trans (hb9.mono h7.b.size)⟩

set_option maxRecDepth 100000 in
theorem lifted (os : Os) (started : os.Started) (H : Type) (enc : TypeId × Value → H) :
    ReturnsInHanded {} Try.checked os 5 .any (Rows.cutRawSpec.pre6 enc Try.prog Try.f5 Rows.cutRawRow.domain false) (Rows.cutRawSpec.post enc Try.prog Try.f5 false true false false) := by
  refine returnsInHanded_of_change (C := Try.checked) own started (by kernel_rfl) Try.func5
    (ChangeSpec.witness6 (enc := enc) (C := Try.checked) false ⟨#[], #[.slice none 0 0, .int .i64 0, .int .i64 0], []⟩ 8 (by kernel_rfl) (by kernel_rfl) (by kernel_rfl) (by kernel_rfl)) ?_
  intro W base args ds gs before hval0 hW hcnd _
  have hval : ∀ (j : Nat) t v, Try.f5.params[j]? = some t → args[j]? = some v → Value.okWide Try.prog W .any base t v := hval0
  have hW' := hW
  obtain ⟨p, q, hA0, hV, rfl, hfz, hnd⟩ := hW
  have hA : DataW.TrodAll enc Try.prog W 0 (fun _ => true) true Try.f5.params.toList args.toList ds p := hA0
  rw [Try.params5] at hA hval
  obtain ⟨v0, vs0, d0, ds0, p0, q0, hargs, rfl, rfl, h0, r0⟩ := trodAll_cons hA
  obtain ⟨v1, vs1, d1, ds1, p1, q1, rfl, rfl, rfl, h1, r1⟩ := trodAll_cons r0
  obtain ⟨v2, vs2, d2, ds2, p2, q2, rfl, rfl, rfl, h2, r2⟩ := trodAll_cons r1
  obtain ⟨rfl, rfl, rfl⟩ := trodAll_nil r2
  obtain rfl : args = #[v0, v1, v2] := by cases args; simp_all
  obtain ⟨rfl, rfl⟩ := trodVars_none hV
  have k0 := h0
  have lt0 : ∀ x ∈ p0, x.block < W.heap.size := by obtain ⟨m, hm⟩ := k0; exact DataW.trod_lt m _ _ _ hm
  obtain ⟨b0, l0, c0, rfl⟩ := okWide_slice Try.underlying41 (hval 0 41 v0 rfl rfl)
  obtain ⟨a0, len0, cap0, z0, e0, w0⟩ := open_rows (enc := enc) (w := W) (v := .slice b0 l0 c0) (fuel := h0.choose) (by simpa [Value.cells] using h0.choose_spec)
  rw [e0] at hval k0 h0 hW' hval0 hA0
  have k1 := h1
  have lt1 : ∀ x ∈ p1, x.block < W.heap.size := by obtain ⟨m, hm⟩ := k1; exact DataW.trod_lt m _ _ _ hm
  obtain ⟨a1, rfl, rfl, rfl, w1⟩ := open_int Try.underlying3 (hval 1 3 v1 rfl rfl) h1
  have k2 := h2
  have lt2 : ∀ x ∈ p2, x.block < W.heap.size := by obtain ⟨m, hm⟩ := k2; exact DataW.trod_lt m _ _ _ hm
  obtain ⟨a2, rfl, rfl, rfl, w2⟩ := open_int Try.underlying3 (hval 2 3 v2 rfl rfl) h2
  clear hA0 hval0
  rw [e0]; refine (walk a0 len0 cap0 z0 a1 a2 W w0 w1 w2).mono fun e W' ⟨he, bel⟩ => ?_
  subst he
  exact ⟨_, rfl, _, _, _, [], _, [], hW', trodAll_mk1 (shut_bool Try.underlying4 _), (trodAll_cons_mk (Below.trod laidOut (by kernel_rfl) (of_decide_eq_true (by kernel_rfl)) k0 bel lt0) (trodAll_cons_mk (Below.trod laidOut (by kernel_rfl) (of_decide_eq_true (by kernel_rfl)) k1 bel lt1) (trodAll_cons_mk (Below.trod laidOut (by kernel_rfl) (of_decide_eq_true (by kernel_rfl)) k2 bel lt2) trodAll_mk0))), rfl, bel.frame _, fun h => by cases h⟩

theorem over : Rows.cutRawRow.holds Try.pinned (OpenSpec.ofChange Rows.cutRawSpec) :=
  OpenClaim.holds_of_wide 5 Try.f5 rfl rfl rfl rfl rfl rfl rfl ⟨rfl, rfl, rfl, rfl, rfl⟩ rfl rfl rfl rfl rfl (by kernel_rfl) Try.func5 (by kernel_rfl)
    (of_decide_eq_true (by kernel_rfl)) (by unfold Func.isWrapper; first | (rw [if_pos (by decide +kernel)]; kernel_rfl) | (rw [if_neg (by decide +kernel)]; exact ⟨rfl, rfl⟩))
    (fun os started H enc _ => lifted os started H enc)

theorem cutRawHolds : Rows.CutRawSaid := over
#print axioms cutRawHolds
end Go.Proofs.Ytellkcppgfghhaa.cutRaw
