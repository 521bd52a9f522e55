/- 'osierlaw3.NodeMakes' returns true for every integer and every slice of steps. No condition. -/
import Derived.Test.YtpcfnnegialegaaRows
import Derived.Deep.LoopGhost
import Derived.Deep.CutRange
import Derived.Deep.CutBlock
import Derived.Deep.DeepCutAuto
import Derived.Deep.RegionHeld3
import Derived.Test.YtpcfnnegialegaaNMk
import Derived.LoopTactic
import Derived.WalkKit
import Derived.ProofKit
import Derived.OpenShut
import Derived.ChangeOld
import Derived.Below
namespace Go.Proofs.Ytpcfnnegialegaa.nodeMakes
open Go.ChangeShapes Go.WideShapes Go.ChangeAt Go.RowKit
set_option linter.all false

theorem own : ownKnob Try.prog.godebug = none := by kernel_rfl
theorem laidOut : laidOutB Try.prog = true := by kernel_rfl

theorem makes_keep {w W W' : World} {c d p : Nat} {room : Int} {L : List It} {out : Value} {M : List NodeD} {k v x y s h : Int} (hb : Below W.heap.size W W')
    (hh : W.cell? ⟨c, 0, none⟩ = some (.int .i64 k) ∧ W.cell? ⟨c, 1, none⟩ = some (.int .i64 v) ∧ W.cell? ⟨c, 2, none⟩ = some (.int .i64 x) ∧ W.cell? ⟨c, 3, none⟩ = some (.int .i64 y) ∧ W.cell? ⟨c, 4, none⟩ = some (.int .i64 s) ∧ W.cell? ⟨c, 5, none⟩ = some (.int .i64 h) ∧ W.cell? ⟨d, 0, none⟩ = some (.int .i64 k) ∧ W.cell? ⟨d, 1, none⟩ = some (.int .i64 v) ∧ W.cell? ⟨d, 2, none⟩ = some (.int .i64 x) ∧ W.cell? ⟨d, 3, none⟩ = some (.int .i64 y) ∧ W.cell? ⟨d, 4, none⟩ = some (.int .i64 s) ∧ W.cell? ⟨d, 5, none⟩ = some (.int .i64 h) ∧ Mk w W p room L out M) : W'.cell? ⟨c, 0, none⟩ = some (.int .i64 k) ∧ W'.cell? ⟨c, 1, none⟩ = some (.int .i64 v) ∧ W'.cell? ⟨c, 2, none⟩ = some (.int .i64 x) ∧ W'.cell? ⟨c, 3, none⟩ = some (.int .i64 y) ∧ W'.cell? ⟨c, 4, none⟩ = some (.int .i64 s) ∧ W'.cell? ⟨c, 5, none⟩ = some (.int .i64 h) ∧ W'.cell? ⟨d, 0, none⟩ = some (.int .i64 k) ∧ W'.cell? ⟨d, 1, none⟩ = some (.int .i64 v) ∧ W'.cell? ⟨d, 2, none⟩ = some (.int .i64 x) ∧ W'.cell? ⟨d, 3, none⟩ = some (.int .i64 y) ∧ W'.cell? ⟨d, 4, none⟩ = some (.int .i64 s) ∧ W'.cell? ⟨d, 5, none⟩ = some (.int .i64 h) ∧ Mk w W' p room L out M := by
  obtain ⟨a0, a1, a2, a3, a4, a5, b0, b1, b2, b3, b4, b5, hM⟩ := hh
  have go : ∀ {q : Addr} {v : Value}, W.cell? q = some v → W'.cell? q = some v := fun hc => (hb.cell (World.block_lt_of_cell? W _ hc)).trans hc
  exact ⟨go a0, go a1, go a2, go a3, go a4, go a5, go b0, go b1, go b2, go b3, go b4, go b5, hM.below hb⟩
theorem makes_new {w W5 : World} {d p : Nat} {room : Int} {L : List It} {out : Value} {M : List NodeD} {k v x y s h : Int}
    (hh : W5.cell? ⟨d, 0, none⟩ = some (.int .i64 k) ∧ W5.cell? ⟨d, 1, none⟩ = some (.int .i64 v) ∧ W5.cell? ⟨d, 2, none⟩ = some (.int .i64 x) ∧ W5.cell? ⟨d, 3, none⟩ = some (.int .i64 y) ∧ W5.cell? ⟨d, 4, none⟩ = some (.int .i64 s) ∧ W5.cell? ⟨d, 5, none⟩ = some (.int .i64 h)) (hM : Mk w W5 p room L out M) : ∀ W, W = (W5.alloc (.cells #[.int .i64 k, .int .i64 v, .int .i64 x, .int .i64 y, .int .i64 s, .int .i64 h] 36)).drew → W.cell? ⟨W5.heap.size, 0, none⟩ = some (.int .i64 k) ∧ W.cell? ⟨W5.heap.size, 1, none⟩ = some (.int .i64 v) ∧ W.cell? ⟨W5.heap.size, 2, none⟩ = some (.int .i64 x) ∧ W.cell? ⟨W5.heap.size, 3, none⟩ = some (.int .i64 y) ∧ W.cell? ⟨W5.heap.size, 4, none⟩ = some (.int .i64 s) ∧ W.cell? ⟨W5.heap.size, 5, none⟩ = some (.int .i64 h) ∧ W.cell? ⟨d, 0, none⟩ = some (.int .i64 k) ∧ W.cell? ⟨d, 1, none⟩ = some (.int .i64 v) ∧ W.cell? ⟨d, 2, none⟩ = some (.int .i64 x) ∧ W.cell? ⟨d, 3, none⟩ = some (.int .i64 y) ∧ W.cell? ⟨d, 4, none⟩ = some (.int .i64 s) ∧ W.cell? ⟨d, 5, none⟩ = some (.int .i64 h) ∧ Mk w W p room L out M := by
  rintro W rfl
  obtain ⟨b0, b1, b2, b3, b4, b5⟩ := hh
  have go : ∀ {q : Addr} {u : Value}, W5.cell? q = some u → (W5.alloc (.cells #[.int .i64 k, .int .i64 v, .int .i64 x, .int .i64 y, .int .i64 s, .int .i64 h] 36)).drew.cell? q = some u := fun hc => cell_alloc hc (.cells #[.int .i64 k, .int .i64 v, .int .i64 x, .int .i64 y, .int .i64 s, .int .i64 h] 36)
  exact ⟨by simp, by simp, by simp, by simp, by simp, by simp, go b0, go b1, go b2, go b3, go b4, go b5, hM.below (((Below.refl _ _).alloc (Nat.le_refl _) _).drew)⟩
theorem makes_mk {w W : World} {c d p : Nat} {room : Int} {L : List It} {out : Value} {M : List NodeD} {k v x y s h : Int} (hh : W.cell? ⟨c, 0, none⟩ = some (.int .i64 k) ∧ W.cell? ⟨c, 1, none⟩ = some (.int .i64 v) ∧ W.cell? ⟨c, 2, none⟩ = some (.int .i64 x) ∧ W.cell? ⟨c, 3, none⟩ = some (.int .i64 y) ∧ W.cell? ⟨c, 4, none⟩ = some (.int .i64 s) ∧ W.cell? ⟨c, 5, none⟩ = some (.int .i64 h) ∧ W.cell? ⟨d, 0, none⟩ = some (.int .i64 k) ∧ W.cell? ⟨d, 1, none⟩ = some (.int .i64 v) ∧ W.cell? ⟨d, 2, none⟩ = some (.int .i64 x) ∧ W.cell? ⟨d, 3, none⟩ = some (.int .i64 y) ∧ W.cell? ⟨d, 4, none⟩ = some (.int .i64 s) ∧ W.cell? ⟨d, 5, none⟩ = some (.int .i64 h) ∧ Mk w W p room L out M) : Mk w W p room L out M := hh.2.2.2.2.2.2.2.2.2.2.2.2
theorem leaf_b (v0 v1 v2 v3 v4 v5 : Int) (b : Bool) (hb : (v2 == 0 && v3 == 0) = b) (w : World) :
    Calls Try.prog 12 #[.agg #[.int .i64 v0, .int .i64 v1, .int .i64 v2, .int .i64 v3, .int .i64 v4, .int .i64 v5]] w fun e w' => e = .returned (.bool b) ∧ Below w.heap.size w w' := by
  subst hb; exact leaf_any v0 v1 v2 v3 v4 v5 w
theorem holds_b (v0 v1 v2 v3 v4 v5 k : Int) (b : Bool) (hb : (v0 == k) = b) (w : World) :
    Calls Try.prog 13 #[.agg #[.int .i64 v0, .int .i64 v1, .int .i64 v2, .int .i64 v3, .int .i64 v4, .int .i64 v5], .int .i64 k] w fun e w' => e = .returned (.bool b) ∧ Below w.heap.size w w' := by
  subst hb; exact holds_any v0 v1 v2 v3 v4 v5 k w
theorem idx0 (x y : Int) (w : World) : Sem.run Try.prog (Instr.index 37 (.agg #[.int .i64 x, .int .i64 y]) (.int .i64 0)) w = .ok (.int .i64 x) w := by kernel_rfl
theorem idx1 (x y : Int) (w : World) : Sem.run Try.prog (Instr.index 37 (.agg #[.int .i64 x, .int .i64 y]) (.int .i64 1)) w = .ok (.int .i64 y) w := by kernel_rfl
attribute [local go_sem] idx0 idx1 undef

set_option maxRecDepth 100000 in
set_option maxHeartbeats 12800000 in
theorem walk (a0 : Int) (a1 : Option Addr) (len1 cap1 : Nat) (z1 : List StepD) (w : World) (w0 : (Lit.int .i64 a0).wf = true) (w1 : ArgSteps w a1 len1 z1) :
    Calls Try.prog 3 #[.int .i64 a0, .slice a1 len1 cap1] w fun e w' => e = .returned (.bool true) ∧ Below w.heap.size w w' := by
  have hl0 := w1.1
  have hl1 := w1.2.1
  have HS := Lib.hid w1.2.2
  have HL := Lib.hid hl0
  clear w1
  unfold maxLen at hl1
  obtain ⟨R, hR, hRe⟩ := room150 a0
  by_cases h100 : 100 < len1
  · have h100' : (100 : Int) < (len1 : Int) := by omega
    clear hRe
    go_enter Try.func3, Try.ntmps3
    go_wp2_with (go_at_call 8; ((with_reducible refine (awake_any _).mono ?_); rintro e W3 ⟨rfl, hb3⟩))
    go_ret
    exact ⟨rfl, hb3⟩
  · have h100' : ¬ (100 : Int) < (len1 : Int) := by omega
    go_enter Try.func3, Try.ntmps3
    go_wp2_with (go_at_call 9; ((with_reducible refine (new_held (R : Int) (R : Int) w _ (Below.refl _ _) (by omega)).mono ?_); rintro e W3 ⟨p, rfl, h1⟩; have H1 := Lib.hid (Mk.new h1); clear h1))
    go_loopg [6, 33] len1 (fun g out i wr => ∃ (n : Nat) (ao : Option Addr) (cp m : Nat) (M : List NodeD), n ≤ len1 ∧ g = len1 - n ∧ i = .int .i64 n ∧ out = .slice ao m cp ∧ m = M.length ∧ m ≤ n ∧ m ≤ R ∧ Small M ∧ Mk w wr p R (M.map itN) out M)
    case atStart => exact ⟨0, _, _, _, [], Nat.zero_le _, by simp, rfl, rfl, rfl, Nat.le_refl _, Nat.zero_le _, Small.nil, H1.out⟩
    case round =>
      obtain ⟨n, ao, cp, m, M, hn, rfl, rfl, rfl, rfl, hmn, hmR, hSm, hMk⟩ := hrel
      clear H1
      obtain ⟨ao', cp', e', hc1, hc2⟩ := hMk.form
      simp only [Value.slice.injEq, true_and] at e'
      obtain ⟨rfl, rfl⟩ := e'
      unfold maxLen at hc2
      have HSm := Lib.hid hSm
      clear hSm
      by_cases hlt : n < len1
      · obtain ⟨c, hc⟩ : ∃ c, z1[n]? = some c := ⟨_, List.getElem?_eq_getElem (by rw [HL.out]; exact hlt)⟩
        obtain ⟨b, o, rfl, hat⟩ := HS.out n c hc
        obtain ⟨c0, c1, c2, c3, c4⟩ := hat.below hMk.b
        clear hat hc
        obtain ⟨k, v, l, r, raw⟩ := c
        dsimp only at c0 c1 c2 c3 c4
        have HMk := Lib.hid hMk
        clear hMk
        have hKi : IntKind.i64.wrap ((M.length : Int) + 1) = (M.length : Int) + 1 := by rw [IntKind.wrap_i64]; omega
        have hKu : IntKind.u64.wrap ((M.length : Int) + 1) = (M.length : Int) + 1 := by rw [wu]; omega
        have hK0 : ¬ (M.length : Int) + 1 = 0 := by omega
        have hK0' : ((M.length : Int) + 1 == 0) = false := by simp; omega
        go_upto_if 41 with (fail)
        go_cut [33] from 33 to 163 (fun i wx => i = .int .i64 n ∧ ∃ lt rt : Int, wx.cell? ⟨wr.heap.size, 0, none⟩ = some (.int .i64 k) ∧ wx.cell? ⟨wr.heap.size, 1, none⟩ = some (.int .i64 v) ∧ wx.cell? ⟨wr.heap.size, 2, none⟩ = some (.int .i64 lt) ∧ wx.cell? ⟨wr.heap.size, 3, none⟩ = some (.int .i64 rt) ∧ Below wr.heap.size wr wx)
        case first =>
          cases raw
          · go_wp2_with (fail)
            go_region
            go_wp2_with (fail)
            go_meet
            case rel => exact ⟨rfl, _, _, by simp, by simp, by simp; rfl, by simp; rfl, ((Below.refl _ _).alloc (Nat.le_refl _) _).drew⟩
          · go_wp2_with (fail)
            go_meet
            case rel => exact ⟨rfl, l, r, by simp, by simp, by simp, by simp, (Below.refl _ _).alloc (Nat.le_refl _) _⟩
        case rest =>
          obtain ⟨rfl, lt, rt, d0, d1, d2, d3, hbx⟩ := hcut
          have HMx := Lib.hid (HMk.out.below hbx)
          have hw1 : wrap64 ((M.length : Int) + 1) = (M.length : Int) + 1 := by unfold wrap64; omega
          have HD := Lib.hid (And.intro d0 d1)
          clear c0 c1 c2 c3 c4 hKi hKu hK0 hK0'
          by_cases hbad : lt < 0 ∨ (M.length : Int) < lt ∨ rt < 0 ∨ (M.length : Int) < rt
          · have cb := HMx.out.make_bad k v lt rt (fun hh => by
              have e1 : ∀ t : Int, HungOk (M.map itN) t → 0 ≤ t ∧ t ≤ M.length := fun t ht => by
                rcases ht with ht | ht
                · omega
                · refine ⟨?_, ?_⟩
                  · exact Classical.byContradiction (fun hn => by rw [itN_kind M t (.inl (by omega))] at ht; omega)
                  · exact Classical.byContradiction (fun hn => by rw [itN_kind M t (.inr (by omega))] at ht; omega)
              have a1 := e1 lt hh.1
              have a2 := e1 rt hh.2
              omega)
            clear HMk
            have hb1 := hbad
            by_cases t1 : lt < 0
            · clear hbad
              clear hb1
              go_wp2_with (go_at_call 10; ((with_reducible refine cb.mono ?_); clear cb; rintro e w5 ⟨rfl, hb⟩; have d1 := (hb.cell (World.block_lt_of_cell? _ _ d2)).trans d2; have d4 := (hb.cell (World.block_lt_of_cell? _ _ d3)).trans d3; have H5 := Lib.hid (HMx.out.below hb); clear hb d2 d3))
              go_roundg (len1 - (n + 1))
              case measure => omega
              case rel => exact ⟨n + 1, _, _, _, M, by omega, rfl, by go_num, rfl, rfl, by omega, hmR, HSm.out, H5.out⟩
            · by_cases t2 : (M.length : Int) < lt
              · clear hbad
                clear hb1
                go_wp2_with (go_at_call 10; ((with_reducible refine cb.mono ?_); clear cb; rintro e w5 ⟨rfl, hb⟩; have d1 := (hb.cell (World.block_lt_of_cell? _ _ d2)).trans d2; have d4 := (hb.cell (World.block_lt_of_cell? _ _ d3)).trans d3; have H5 := Lib.hid (HMx.out.below hb); clear hb d2 d3))
                go_roundg (len1 - (n + 1))
                case measure => omega
                case rel => exact ⟨n + 1, _, _, _, M, by omega, rfl, by go_num, rfl, rfl, by omega, hmR, HSm.out, H5.out⟩
              · by_cases t3 : rt < 0
                · clear hbad
                  clear hb1
                  go_wp2_with (go_at_call 10; ((with_reducible refine cb.mono ?_); clear cb; rintro e w5 ⟨rfl, hb⟩; have d1 := (hb.cell (World.block_lt_of_cell? _ _ d2)).trans d2; have d4 := (hb.cell (World.block_lt_of_cell? _ _ d3)).trans d3; have H5 := Lib.hid (HMx.out.below hb); clear hb d2 d3))
                  go_roundg (len1 - (n + 1))
                  case measure => omega
                  case rel => exact ⟨n + 1, _, _, _, M, by omega, rfl, by go_num, rfl, rfl, by omega, hmR, HSm.out, H5.out⟩
                · have t4 : (M.length : Int) < rt := by omega
                  clear hbad
                  clear hb1
                  go_wp2_with (go_at_call 10; ((with_reducible refine cb.mono ?_); clear cb; rintro e w5 ⟨rfl, hb⟩; have d1 := (hb.cell (World.block_lt_of_cell? _ _ d2)).trans d2; have d4 := (hb.cell (World.block_lt_of_cell? _ _ d3)).trans d3; have H5 := Lib.hid (HMx.out.below hb); clear hb d2 d3))
                  go_roundg (len1 - (n + 1))
                  case measure => omega
                  case rel => exact ⟨n + 1, _, _, _, M, by omega, rfl, by go_num, rfl, rfl, by omega, hmR, HSm.out, H5.out⟩
          · have g1 : 0 ≤ lt := by omega
            have g2 : lt ≤ (M.length : Int) := by omega
            have g3 : 0 ≤ rt := by omega
            have g4 : rt ≤ (M.length : Int) := by omega
            clear hbad
            obtain ⟨sl, hl, hh1⟩ := hangs_of M lt g1 g2
            obtain ⟨sr, hr, hh2⟩ := hangs_of M rt g3 g4
            have hM1000 : M.length ≤ 1000 := by omega
            obtain ⟨u1, p1, p2, p3, p4⟩ := hangs_hung HSm.out hM1000 hh1
            obtain ⟨u2, q1, q2, q3, q4⟩ := hangs_hung HSm.out hM1000 hh2
            by_cases hfull : R = M.length
            · have cf := HMx.out.make_full k v lt rt sl hl sr hr u1 u2 (by rw [List.length_map, hfull])
              have hge : (R : Int) ≤ (M.length : Int) := by omega
              have n1 : ¬ lt < 0 := by omega
              have n2 : ¬ (M.length : Int) < lt := by omega
              have n3 : ¬ rt < 0 := by omega
              have n4 : ¬ (M.length : Int) < rt := by omega
              clear HMk hfull u1 u2 hh1 hh2
              go_wp2_with (go_at_call 10; ((with_reducible refine cf.mono ?_); clear cf; rintro e w5 ⟨rfl, hb⟩; have d1 := (hb.cell (World.block_lt_of_cell? _ _ d2)).trans d2; have d4 := (hb.cell (World.block_lt_of_cell? _ _ d3)).trans d3; have H5 := Lib.hid (HMx.out.below hb); clear hb d2 d3))
              go_roundg (len1 - (n + 1))
              case measure => omega
              case rel => exact ⟨n + 1, _, _, _, M, by omega, rfl, by go_num, rfl, rfl, by omega, hmR, HSm.out, H5.out⟩
            · have hltR : ¬ (R : Int) ≤ (M.length : Int) := by omega
              have hmax : max hl hr + 1 = max (max 1 (1 + hl)) (1 + hr) := by omega
              have cm := HMk.out.make hbx k v lt rt sl hl sr hr ((M.length : Int) + 1) (sl + sr + 1) (max hl hr + 1) u1 u2 (by rw [List.length_map]; omega) (by omega) (by omega) (by omega) (by omega) (by rw [List.length_map]) rfl rfl
              have n1 : ¬ lt < 0 := by omega
              have n2 : ¬ (M.length : Int) < lt := by omega
              have n3 : ¬ rt < 0 := by omega
              have n4 : ¬ (M.length : Int) < rt := by omega
              have HH1 := Lib.hid hh1
              have HH2 := Lib.hid hh2
              have HP := Lib.hid (And.intro p1 (And.intro p2 (And.intro p3 (And.intro p4 (And.intro q1 (And.intro q2 (And.intro q3 q4)))))))
              have HX := Lib.hid hmax
              clear HMk u1 u2 hfull hh1 hh2 p1 p2 p3 p4 q1 q2 q3 q4 hmax HMx
              go_wp2_with (go_at_call 10; ((with_reducible refine cm.mono ?_); clear cm; rintro e w5 ⟨rfl, hm5, hk5⟩; have e0 := hk5 _ _ (Nat.le_refl _) HD.out.1; have e1 := hk5 _ _ (Nat.le_refl _) HD.out.2; have e2 := hk5 _ _ (Nat.le_refl _) d2; have e3 := hk5 _ _ (Nat.le_refl _) d3; have H5 := Lib.hid hm5; have f2 := cell_alloc e2 (.cells #[.int .i64 k, .int .i64 v, .int .i64 lt, .int .i64 rt, .int .i64 1, .int .i64 1] 36); have f3 := cell_alloc e3 (.cells #[.int .i64 k, .int .i64 v, .int .i64 lt, .int .i64 rt, .int .i64 1, .int .i64 1] 36); clear hm5 hk5 d2 d3 HD))
              go_loopw [120] (fun i wx => ∃ (j : Nat) (S H : Int), j ≤ 2 ∧ i = .int .i64 j ∧ (j = 0 → S = 1 ∧ H = 1) ∧ (j = 1 → S = 1 + sl ∧ H = max 1 (1 + hl)) ∧ (j = 2 → S = 1 + sl + sr ∧ H = max (max 1 (1 + hl)) (1 + hr)) ∧ wx.cell? ⟨w5.heap.size, 0, none⟩ = some (.int .i64 k) ∧ wx.cell? ⟨w5.heap.size, 1, none⟩ = some (.int .i64 v) ∧ wx.cell? ⟨w5.heap.size, 2, none⟩ = some (.int .i64 lt) ∧ wx.cell? ⟨w5.heap.size, 3, none⟩ = some (.int .i64 rt) ∧ wx.cell? ⟨w5.heap.size, 4, none⟩ = some (.int .i64 S) ∧ wx.cell? ⟨w5.heap.size, 5, none⟩ = some (.int .i64 H) ∧ (∀ j, wx.frozen? ⟨w5.heap.size, j, none⟩ = false) ∧ Below w5.heap.size w5 wx) (fun i _ => 2 - (intOf i).toNat)
              case atStart => exact ⟨0, 1, 1, by omega, rfl, fun _ => ⟨rfl, rfl⟩, fun h => by omega, fun h => by omega, by simp, by simp, by simp, by simp, by simp, by simp, fun j => by simp, (Below.refl _ _).alloc (Nat.le_refl _) _⟩
              case round =>
                obtain ⟨j, S, H, hj, rfl, j0, j1, j2, c0, c1, c2, c3, c4, c5, cf, hbx2⟩ := hrel
                obtain ⟨p1, p2, p3, p4, q1, q2, q3, q4⟩ := HP.out
                have fr0 := cf 4
                have fr1 := cf 5
                clear f2 f3 e0 e1 e2 e3
                by_cases hj0 : j = 0
                · subst hj0
                  obtain ⟨s1, s2⟩ := j0 rfl
                  clear j0 j1 j2
                  rcases HH1.out with ⟨z0, z1', z2⟩ | ⟨i0, q, z0, hq, z1', z2⟩
                  · have hz : ¬ (0 : Int) < lt := by omega
                    have HRel : Hid (S = 1 + sl ∧ H = max 1 (1 + hl)) := Lib.hid ⟨by omega, by omega⟩
                    clear z0 z1' z2 s1 s2
                    go_wp2_with (fail)
                    go_roundw
                    case rel => exact ⟨1, S, H, by omega, by go_num, fun h => by omega, fun _ => HRel.out, fun h => by omega, c0, c1, c2, c3, c4, c5, cf, hbx2⟩
                    case measure => simp [intOf]
                  · have hz : (0 : Int) < lt := by omega
                    obtain ⟨g, cg, eo, _, _, r0, r1, r2, r3, r4, r5⟩ := H5.out.row i0 q hq
                    simp only [Value.slice.injEq, true_and] at eo
                    obtain ⟨rfl, rfl⟩ := eo
                    have r4' := (hbx2.cell (World.block_lt_of_cell? _ _ r4)).trans r4
                    have r5' := (hbx2.cell (World.block_lt_of_cell? _ _ r5)).trans r5
                    rw [← z1'] at r4'
                    rw [← z2] at r5'
                    have hi0 : i0 < M.length := (List.getElem?_eq_some_iff.1 hq).1
                    have hi1 : (i0 : Int) < (M.length : Int) := by omega
                    have hi2 : (0 : Int) ≤ (i0 : Int) := by omega
                    have hz1 : IntKind.i64.wrap (lt - 1) = (i0 : Int) := by rw [IntKind.wrap_i64]; omega
                    have hz2 : IntKind.i64.wrap (S + sl) = S + sl := by rw [IntKind.wrap_i64]; omega
                    have hz3 : IntKind.i64.wrap (1 + hl) = 1 + hl := by rw [IntKind.wrap_i64]; omega
                    have hgb : g < w5.heap.size := World.block_lt_of_cell? _ _ r4
                    have hgne : ¬ g = w5.heap.size := by omega
                    have hgne2 : ¬ w5.heap.size = g := by omega
                    obtain ⟨Hn, hif⟩ : ∃ Hn, (if H < 1 + hl then 1 + hl else H) = Hn := ⟨_, rfl⟩
                    have HRel : Hid (S + sl = 1 + sl ∧ Hn = max 1 (1 + hl)) := Lib.hid ⟨by omega, by rw [← hif]; split <;> omega⟩
                    clear r0 r1 r2 r3 r4 r5 hq z0 z1' z2 s1 s2
                    go_wp2_with (fail)
                    go_region
                    go_wp2_with (fail)
                    go_region
                    go_wp2_with (fail)
                    go_roundw
                    case rel => exact ⟨1, S + sl, Hn, by omega, by go_num, fun h => by omega, fun _ => HRel.out, fun h => by omega, keepc (keepc c0 (by decide)) (by decide), keepc (keepc c1 (by decide)) (by decide), keepc (keepc c2 (by decide)) (by decide), keepc (keepc c3 (by decide)) (by decide), keepc (World.cell?_setCell_same _ _ _ c4) (by decide), World.cell?_setCell_same _ _ _ (keepc c5 (by decide)), fun j => (World.frozen?_setCell _ _ _ _).trans ((World.frozen?_setCell _ _ _ _).trans (cf j)), by first | exact Below.drew (Below.drew (Below.setCell (p := ⟨w5.heap.size, 5, none⟩) (Below.setCell (p := ⟨w5.heap.size, 4, none⟩) hbx2 (Nat.le_refl _) _) (Nat.le_refl _) _)) | exact Below.drew (Below.setCell (p := ⟨w5.heap.size, 5, none⟩) (Below.setCell (p := ⟨w5.heap.size, 4, none⟩) hbx2 (Nat.le_refl _) _) (Nat.le_refl _) _) | exact (Below.setCell (p := ⟨w5.heap.size, 5, none⟩) (Below.setCell (p := ⟨w5.heap.size, 4, none⟩) hbx2 (Nat.le_refl _) _) (Nat.le_refl _) _)⟩
                    case measure => simp [intOf]
                · by_cases hj1 : j = 1
                  · subst hj1
                    obtain ⟨s1, s2⟩ := j1 rfl
                    clear j0 j1 j2
                    rcases HH2.out with ⟨z0, z1', z2⟩ | ⟨i0, q, z0, hq, z1', z2⟩
                    · have hz : ¬ (0 : Int) < rt := by omega
                      have HRel : Hid (S = 1 + sl + sr ∧ H = max (max 1 (1 + hl)) (1 + hr)) := Lib.hid ⟨by omega, by omega⟩
                      clear z0 z1' z2 s1 s2
                      go_wp2_with (fail)
                      go_roundw
                      case rel => exact ⟨2, S, H, by omega, by go_num, fun h => by omega, fun h => by omega, fun _ => HRel.out, c0, c1, c2, c3, c4, c5, cf, hbx2⟩
                      case measure => simp [intOf]
                    · have hz : (0 : Int) < rt := by omega
                      obtain ⟨g, cg, eo, _, _, r0, r1, r2, r3, r4, r5⟩ := H5.out.row i0 q hq
                      simp only [Value.slice.injEq, true_and] at eo
                      obtain ⟨rfl, rfl⟩ := eo
                      have r4' := (hbx2.cell (World.block_lt_of_cell? _ _ r4)).trans r4
                      have r5' := (hbx2.cell (World.block_lt_of_cell? _ _ r5)).trans r5
                      rw [← z1'] at r4'
                      rw [← z2] at r5'
                      have hi0 : i0 < M.length := (List.getElem?_eq_some_iff.1 hq).1
                      have hi1 : (i0 : Int) < (M.length : Int) := by omega
                      have hi2 : (0 : Int) ≤ (i0 : Int) := by omega
                      have hz1 : IntKind.i64.wrap (rt - 1) = (i0 : Int) := by rw [IntKind.wrap_i64]; omega
                      have hz2 : IntKind.i64.wrap (S + sr) = S + sr := by rw [IntKind.wrap_i64]; omega
                      have hz3 : IntKind.i64.wrap (1 + hr) = 1 + hr := by rw [IntKind.wrap_i64]; omega
                      have hgb : g < w5.heap.size := World.block_lt_of_cell? _ _ r4
                      have hgne : ¬ g = w5.heap.size := by omega
                      have hgne2 : ¬ w5.heap.size = g := by omega
                      obtain ⟨Hn, hif⟩ : ∃ Hn, (if H < 1 + hr then 1 + hr else H) = Hn := ⟨_, rfl⟩
                      have HRel : Hid (S + sr = 1 + sl + sr ∧ Hn = max (max 1 (1 + hl)) (1 + hr)) := Lib.hid ⟨by omega, by rw [← hif]; split <;> omega⟩
                      clear r0 r1 r2 r3 r4 r5 hq z0 z1' z2 s1 s2
                      go_wp2_with (fail)
                      go_region
                      go_wp2_with (fail)
                      go_region
                      go_wp2_with (fail)
                      go_roundw
                      case rel => exact ⟨2, S + sr, Hn, by omega, by go_num, fun h => by omega, fun h => by omega, fun _ => HRel.out, keepc (keepc c0 (by decide)) (by decide), keepc (keepc c1 (by decide)) (by decide), keepc (keepc c2 (by decide)) (by decide), keepc (keepc c3 (by decide)) (by decide), keepc (World.cell?_setCell_same _ _ _ c4) (by decide), World.cell?_setCell_same _ _ _ (keepc c5 (by decide)), fun j => (World.frozen?_setCell _ _ _ _).trans ((World.frozen?_setCell _ _ _ _).trans (cf j)), by first | exact Below.drew (Below.drew (Below.setCell (p := ⟨w5.heap.size, 5, none⟩) (Below.setCell (p := ⟨w5.heap.size, 4, none⟩) hbx2 (Nat.le_refl _) _) (Nat.le_refl _) _)) | exact Below.drew (Below.setCell (p := ⟨w5.heap.size, 5, none⟩) (Below.setCell (p := ⟨w5.heap.size, 4, none⟩) hbx2 (Nat.le_refl _) _) (Nat.le_refl _) _) | exact (Below.setCell (p := ⟨w5.heap.size, 5, none⟩) (Below.setCell (p := ⟨w5.heap.size, 4, none⟩) hbx2 (Nat.le_refl _) _) (Nat.le_refl _) _)⟩
                      case measure => simp [intOf]
                  · obtain rfl : j = 2 := by omega
                    obtain ⟨s1, s2⟩ := j2 rfl
                    have HE : Hid (S = sl + sr + 1 ∧ H = max hl hr + 1) := Lib.hid ⟨by omega, by rw [HX.out]; exact s2⟩
                    have HM2 := Lib.hid (H5.out.below hbx2)
                    clear j0 j1 j2 s1 s2 p1 p2 p3 p4 q1 q2 q3 q4
                    by_cases hbig : 1099511627776 < S
                    · go_wp2_with (go_at_call 8; ((with_reducible refine (awake_any _).mono ?_); rintro e W8 ⟨rfl, hb8⟩))
                      go_ret
                      exact ⟨rfl, HM2.out.b.trans (hb8.mono HM2.out.b.size)⟩
                    · have hML : M.length ≤ 1000000 := by omega
                      go_wp2_with (at_builtin; refine Mk.pushed HM2.out ⟨k, v, lt, rt, S, H⟩ rfl (.tmp 151) (.tmp 153) rfl rfl _ rfl (by simp) hML ?_; intro ao1 cp1 w7 hm1 hc1 hM7; have H7 := Lib.hid hM7; clear hM7; unfold maxLen at hm1)
                      go_roundg (len1 - (n + 1))
                      case measure => omega
                      case rel =>
                        obtain ⟨p1, p2, p3, p4, q1, q2, q3, q4⟩ := HP.out
                        obtain ⟨e1, e2⟩ := HE.out
                        refine ⟨n + 1, _, _, _, M ++ [⟨k, v, lt, rt, S, H⟩], by omega, rfl, by go_num, rfl, by simp, by omega, by omega, HSm.out.snoc _ (by dsimp only; omega) (by dsimp only; omega) (by dsimp only; omega) (by dsimp only; omega), ?_⟩
                        have h7 := H7.out
                        rw [← e1, ← e2] at h7
                        rw [List.map_append]
                        exact h7
      · obtain rfl : n = len1 := by omega
        have HMk := Lib.hid hMk
        clear hMk
        go_wp2_with (fail)
        go_loopw [166] (fun i wx => ∃ j : Nat, j ≤ M.length ∧ i = .int .i64 j ∧ Mk w wx p R (M.map itN) (.slice ao M.length cp) M) (fun i _ => M.length - (intOf i).toNat)
        case atStart => exact ⟨0, Nat.zero_le _, rfl, HMk.out⟩
        case round =>
          clear HMk
          obtain ⟨j, hj, rfl, hMk⟩ := hrel
          by_cases hjl : j < M.length
          · obtain ⟨q, hq⟩ : ∃ q, M[j]? = some q := ⟨_, List.getElem?_eq_getElem hjl⟩
            obtain ⟨g, cg, eo, _, _, r0, r1, r2, r3, r4, r5⟩ := hMk.row j q hq
            simp only [Value.slice.injEq, true_and] at eo
            obtain ⟨rfl, rfl⟩ := eo
            obtain ⟨N0, N1, N2, N3, N4, N5, N6⟩ := node_says (itN_at M j q hq _ rfl)
            obtain ⟨k, v, x, y, s, h⟩ := q
            dsimp only at r0 r1 r2 r3 r4 r5 N1 N2 N3 N4 N5 N6
            have hM2 := hMk.below ((Below.refl wr.heap.size wr).alloc (Nat.le_refl _) (.cells #[.int .i64 k, .int .i64 v, .int .i64 x, .int .i64 y, .int .i64 s, .int .i64 h] 36))
            have cg := hM2.get ((j : Int) + 1) N0
            rw [N1, N2, N3, N4, N5, N6] at cg
            have hw2 : wrap64 ((j : Int) + 1) = (j : Int) + 1 := by unfold wrap64; omega
            have ch := fun W => holds_b k v x y s h k true (by simp) W
            obtain ⟨b2, hb2⟩ : ∃ b, (y == 0) = b := ⟨_, rfl⟩
            have HMk := Lib.hid hM2
            clear hMk hM2 N0 N1 N2 N3 N4 N5 N6 hq
            cases hx0 : x == 0
            · have cl := fun W => leaf_b k v x y s h false (by rw [hx0]; rfl) W
              go_wp2_with (go_at_call 11; ((with_reducible refine cg.mono ?_); clear cg; rintro e W5 ⟨rfl, hb5⟩; have H5 := Lib.hid (HMk.out.below hb5); have C5 := Lib.hid (And.intro (cell_new (v := .int .i64 k) hb5 0 rfl) (And.intro (cell_new (v := .int .i64 v) hb5 1 rfl) (And.intro (cell_new (v := .int .i64 x) hb5 2 rfl) (And.intro (cell_new (v := .int .i64 y) hb5 3 rfl) (And.intro (cell_new (v := .int .i64 s) hb5 4 rfl) (cell_new (v := .int .i64 h) hb5 5 rfl)))))); clear hb5))
              refine wp_region_held_drew (S := fun W => W.cell? ⟨W5.heap.size, 0, none⟩ = some (.int .i64 k) ∧ W.cell? ⟨W5.heap.size, 1, none⟩ = some (.int .i64 v) ∧ W.cell? ⟨W5.heap.size, 2, none⟩ = some (.int .i64 x) ∧ W.cell? ⟨W5.heap.size, 3, none⟩ = some (.int .i64 y) ∧ W.cell? ⟨W5.heap.size, 4, none⟩ = some (.int .i64 s) ∧ W.cell? ⟨W5.heap.size, 5, none⟩ = some (.int .i64 h) ∧ W.cell? ⟨wr.heap.size, 0, none⟩ = some (.int .i64 k) ∧ W.cell? ⟨wr.heap.size, 1, none⟩ = some (.int .i64 v) ∧ W.cell? ⟨wr.heap.size, 2, none⟩ = some (.int .i64 x) ∧ W.cell? ⟨wr.heap.size, 3, none⟩ = some (.int .i64 y) ∧ W.cell? ⟨wr.heap.size, 4, none⟩ = some (.int .i64 s) ∧ W.cell? ⟨wr.heap.size, 5, none⟩ = some (.int .i64 h) ∧ Mk w W p R (M.map itN) (.slice (some ⟨g, 0, none⟩) M.length cp) M) (by kernel_rfl) (makes_new C5.out H5.out _ rfl) (fun hHeld => ?_)
              refine wpAnyH_take (i := 0) (v := ?_) rfl (by kernel_rfl) (by kernel_rfl) (by kernel_rfl) (fun _ _ _ h => h) (Or.inl ⟨by rfl, ?_⟩) hHeld ?_
              rotate_left
              · (intro wS hSw; (try dsimp only at hSw); go_simp; try with_reducible rfl)
              try simp only [List.getElem_toArray, List.getElem_cons_succ, List.getElem_cons_zero, Act.put, List.setIfInBounds_toArray, List.set_cons_zero, List.set_cons_succ]
              refine wpAnyH_take (i := 1) (v := ?_) rfl (by kernel_rfl) (by kernel_rfl) (by kernel_rfl) (fun _ _ _ h => h) (Or.inl ⟨by rfl, ?_⟩) hHeld ?_
              rotate_left
              · (intro wS hSw; (try dsimp only at hSw); go_simp; try with_reducible rfl)
              try simp only [List.getElem_toArray, List.getElem_cons_succ, List.getElem_cons_zero, Act.put, List.setIfInBounds_toArray, List.set_cons_zero, List.set_cons_succ]
              refine wpAnyH_take (i := 2) (v := ?_) rfl (by kernel_rfl) (by kernel_rfl) (by kernel_rfl) (fun _ _ _ h => h) (Or.inl ⟨by rfl, ?_⟩) hHeld ?_
              rotate_left
              · (intro wS hSw; (try dsimp only at hSw); go_simp; try with_reducible rfl)
              try simp only [List.getElem_toArray, List.getElem_cons_succ, List.getElem_cons_zero, Act.put, List.setIfInBounds_toArray, List.set_cons_zero, List.set_cons_succ]
              refine wpAnyH_take (i := 3) (v := ?_) rfl (by kernel_rfl) (by kernel_rfl) (by kernel_rfl) (fun _ _ _ h => h) (Or.inl ⟨by rfl, ?_⟩) hHeld ?_
              rotate_left
              · (intro wS hSw; (try dsimp only at hSw); go_simp; try with_reducible rfl)
              try simp only [List.getElem_toArray, List.getElem_cons_succ, List.getElem_cons_zero, Act.put, List.setIfInBounds_toArray, List.set_cons_zero, List.set_cons_succ]
              refine wpAnyH_take (i := 4) (v := ?_) rfl (by kernel_rfl) (by kernel_rfl) (by kernel_rfl) (fun _ _ _ h => h) (Or.inl ⟨by rfl, ?_⟩) hHeld ?_
              rotate_left
              · (intro wS hSw; (try dsimp only at hSw); go_simp; try with_reducible rfl)
              try simp only [List.getElem_toArray, List.getElem_cons_succ, List.getElem_cons_zero, Act.put, List.setIfInBounds_toArray, List.set_cons_zero, List.set_cons_succ]
              refine wpAnyH_take (i := 5) (v := ?_) rfl (by kernel_rfl) (by kernel_rfl) (by kernel_rfl) (fun _ _ _ h => h) (Or.inl ⟨by rfl, ?_⟩) hHeld ?_
              rotate_left
              · (intro wS hSw; (try dsimp only at hSw); go_simp; try with_reducible rfl)
              try simp only [List.getElem_toArray, List.getElem_cons_succ, List.getElem_cons_zero, Act.put, List.setIfInBounds_toArray, List.set_cons_zero, List.set_cons_succ]
              refine wpAnyH_take (i := 6) (v := ?_) rfl (by kernel_rfl) (by kernel_rfl) (by kernel_rfl) (fun _ _ _ h => h) (Or.inl ⟨by rfl, ?_⟩) hHeld ?_
              rotate_left
              · (intro wS hSw; (try dsimp only at hSw); go_simp; try with_reducible rfl)
              try simp only [List.getElem_toArray, List.getElem_cons_succ, List.getElem_cons_zero, Act.put, List.setIfInBounds_toArray, List.set_cons_zero, List.set_cons_succ]
              refine wpAnyH_take (i := 7) (v := ?_) rfl (by kernel_rfl) (by kernel_rfl) (by kernel_rfl) (fun _ _ _ h => h) (Or.inl ⟨by rfl, ?_⟩) hHeld ?_
              rotate_left
              · (intro wS hSw; (try dsimp only at hSw); go_simp; try with_reducible rfl)
              try simp only [List.getElem_toArray, List.getElem_cons_succ, List.getElem_cons_zero, Act.put, List.setIfInBounds_toArray, List.set_cons_zero, List.set_cons_succ]
              refine wpAnyH_take (i := 8) (v := ?_) rfl (by kernel_rfl) (by kernel_rfl) (by kernel_rfl) (fun _ _ _ h => h) (Or.inl ⟨by rfl, ?_⟩) hHeld ?_
              rotate_left
              · (intro wS hSw; (try dsimp only at hSw); go_simp; try with_reducible rfl)
              try simp only [List.getElem_toArray, List.getElem_cons_succ, List.getElem_cons_zero, Act.put, List.setIfInBounds_toArray, List.set_cons_zero, List.set_cons_succ]
              refine wpAnyH_take (i := 10) (v := ?_) rfl (by kernel_rfl) (by kernel_rfl) (by kernel_rfl) (fun _ _ _ h => h) (Or.inl ⟨by rfl, ?_⟩) hHeld ?_
              rotate_left
              · (intro wS hSw; (try dsimp only at hSw); go_simp; try with_reducible rfl)
              try simp only [List.getElem_toArray, List.getElem_cons_succ, List.getElem_cons_zero, Act.put, List.setIfInBounds_toArray, List.set_cons_zero, List.set_cons_succ]
              refine wpAnyH_take (i := 11) (v := ?_) rfl (by kernel_rfl) (by kernel_rfl) (by kernel_rfl) (fun _ _ _ h => h) (Or.inl ⟨by rfl, ?_⟩) hHeld ?_
              rotate_left
              · (intro wS hSw; (try dsimp only at hSw); go_simp; try with_reducible rfl)
              try simp only [List.getElem_toArray, List.getElem_cons_succ, List.getElem_cons_zero, Act.put, List.setIfInBounds_toArray, List.set_cons_zero, List.set_cons_succ]
              refine wpAnyH_take (i := 12) (v := ?_) rfl (by kernel_rfl) (by kernel_rfl) (by kernel_rfl) (fun _ _ _ h => h) (Or.inl ⟨by rfl, ?_⟩) hHeld ?_
              rotate_left
              · (intro wS hSw; (try dsimp only at hSw); go_simp; try with_reducible rfl)
              try simp only [List.getElem_toArray, List.getElem_cons_succ, List.getElem_cons_zero, Act.put, List.setIfInBounds_toArray, List.set_cons_zero, List.set_cons_succ]
              refine wpAnyH_ready (rs := [9]) (by kernel_rfl) (by simp) ?_
              refine AllReadyH.cons rfl (fun K hK => ?_) AllReadyH.nil
              go_simp
              (go_at_call 12; ((with_reducible refine (cl _).mono ?_); rintro e W8 ⟨rfl, hb⟩))
              refine hK.out _ _ ?_ (fun hNext => ?_)
              · exact makes_keep hb hHeld
              clear hK K hHeld
              have hHeld := hNext
              clear hNext
              try simp only [List.getElem_toArray, List.getElem_cons_succ, List.getElem_cons_zero, Act.put, List.setIfInBounds_toArray, List.set_cons_zero, List.set_cons_succ]
              refine wpAnyH_take (i := 13) (v := ?_) rfl (by kernel_rfl) (by kernel_rfl) (by kernel_rfl) (fun _ _ _ h => h) (Or.inl ⟨by rfl, ?_⟩) hHeld ?_
              rotate_left
              · (intro wS hSw; (try dsimp only at hSw); go_simp; try with_reducible rfl)
              try simp only [List.getElem_toArray, List.getElem_cons_succ, List.getElem_cons_zero, Act.put, List.setIfInBounds_toArray, List.set_cons_zero, List.set_cons_succ]
              refine wpAnyH_take (i := 14) (v := undef) rfl (by kernel_rfl) (by kernel_rfl) (by kernel_rfl) (fun _ _ _ h => h) (Or.inr ⟨by rfl, rfl⟩) hHeld ?_
              try simp only [List.getElem_toArray, List.getElem_cons_succ, List.getElem_cons_zero, Act.put, List.setIfInBounds_toArray, List.set_cons_zero, List.set_cons_succ]
              refine wpAnyH_take (i := 15) (v := undef) rfl (by kernel_rfl) (by kernel_rfl) (by kernel_rfl) (fun _ _ _ h => h) (Or.inr ⟨by rfl, rfl⟩) hHeld ?_
              try simp only [List.getElem_toArray, List.getElem_cons_succ, List.getElem_cons_zero, Act.put, List.setIfInBounds_toArray, List.set_cons_zero, List.set_cons_succ]
              refine wpAnyH_take (i := 16) (v := undef) rfl (by kernel_rfl) (by kernel_rfl) (by kernel_rfl) (fun _ _ _ h => h) (Or.inr ⟨by rfl, rfl⟩) hHeld ?_
              try simp only [List.getElem_toArray, List.getElem_cons_succ, List.getElem_cons_zero, Act.put, List.setIfInBounds_toArray, List.set_cons_zero, List.set_cons_succ]
              refine wpAnyH_take (i := 17) (v := ?_) rfl (by kernel_rfl) (by kernel_rfl) (by kernel_rfl) (fun _ _ _ h => h) (Or.inl ⟨by rfl, ?_⟩) hHeld ?_
              rotate_left
              · (intro wS hSw; (try dsimp only at hSw); go_simp; try with_reducible rfl)
              try simp only [List.getElem_toArray, List.getElem_cons_succ, List.getElem_cons_zero, Act.put, List.setIfInBounds_toArray, List.set_cons_zero, List.set_cons_succ]
              refine wpAnyH_take (i := 18) (v := ?_) rfl (by kernel_rfl) (by kernel_rfl) (by kernel_rfl) (fun _ _ _ h => h) (Or.inl ⟨by rfl, ?_⟩) hHeld ?_
              rotate_left
              · (intro wS hSw; (try dsimp only at hSw); go_simp; try with_reducible rfl)
              try simp only [List.getElem_toArray, List.getElem_cons_succ, List.getElem_cons_zero, Act.put, List.setIfInBounds_toArray, List.set_cons_zero, List.set_cons_succ]
              refine wpAnyH_take (i := 19) (v := ?_) rfl (by kernel_rfl) (by kernel_rfl) (by kernel_rfl) (fun _ _ _ h => h) (Or.inl ⟨by rfl, ?_⟩) hHeld ?_
              rotate_left
              · (intro wS hSw; (try dsimp only at hSw); go_simp; try with_reducible rfl)
              try simp only [List.getElem_toArray, List.getElem_cons_succ, List.getElem_cons_zero, Act.put, List.setIfInBounds_toArray, List.set_cons_zero, List.set_cons_succ]
              refine wpAnyH_take (i := 20) (v := ?_) rfl (by kernel_rfl) (by kernel_rfl) (by kernel_rfl) (fun _ _ _ h => h) (Or.inl ⟨by rfl, ?_⟩) hHeld ?_
              rotate_left
              · (intro wS hSw; (try dsimp only at hSw); go_simp; try with_reducible rfl)
              try simp only [List.getElem_toArray, List.getElem_cons_succ, List.getElem_cons_zero, Act.put, List.setIfInBounds_toArray, List.set_cons_zero, List.set_cons_succ]
              refine wpAnyH_take (i := 21) (v := ?_) rfl (by kernel_rfl) (by kernel_rfl) (by kernel_rfl) (fun _ _ _ h => h) (Or.inl ⟨by rfl, ?_⟩) hHeld ?_
              rotate_left
              · (intro wS hSw; (try dsimp only at hSw); go_simp; try with_reducible rfl)
              try simp only [List.getElem_toArray, List.getElem_cons_succ, List.getElem_cons_zero, Act.put, List.setIfInBounds_toArray, List.set_cons_zero, List.set_cons_succ]
              refine wpAnyH_take (i := 22) (v := ?_) rfl (by kernel_rfl) (by kernel_rfl) (by kernel_rfl) (fun _ _ _ h => h) (Or.inl ⟨by rfl, ?_⟩) hHeld ?_
              rotate_left
              · (intro wS hSw; (try dsimp only at hSw); go_simp; try with_reducible rfl)
              try simp only [List.getElem_toArray, List.getElem_cons_succ, List.getElem_cons_zero, Act.put, List.setIfInBounds_toArray, List.set_cons_zero, List.set_cons_succ]
              refine wpAnyH_take (i := 23) (v := ?_) rfl (by kernel_rfl) (by kernel_rfl) (by kernel_rfl) (fun _ _ _ h => h) (Or.inl ⟨by rfl, ?_⟩) hHeld ?_
              rotate_left
              · (intro wS hSw; (try dsimp only at hSw); go_simp; try with_reducible rfl)
              try simp only [List.getElem_toArray, List.getElem_cons_succ, List.getElem_cons_zero, Act.put, List.setIfInBounds_toArray, List.set_cons_zero, List.set_cons_succ]
              refine wpAnyH_take (i := 24) (v := ?_) rfl (by kernel_rfl) (by kernel_rfl) (by kernel_rfl) (fun _ _ _ h => h) (Or.inl ⟨by rfl, ?_⟩) hHeld ?_
              rotate_left
              · (intro wS hSw; (try dsimp only at hSw); go_simp; try with_reducible rfl)
              try simp only [List.getElem_toArray, List.getElem_cons_succ, List.getElem_cons_zero, Act.put, List.setIfInBounds_toArray, List.set_cons_zero, List.set_cons_succ]
              refine wpAnyH_ready (rs := [25]) (by kernel_rfl) (by simp) ?_
              refine AllReadyH.cons rfl (fun K hK => ?_) AllReadyH.nil
              go_simp
              (go_at_call 13; ((with_reducible refine (ch _).mono ?_); rintro e W9 ⟨rfl, hb⟩))
              refine hK.out _ _ ?_ (fun hNext => ?_)
              · exact makes_keep hb hHeld
              clear hK K hHeld
              have hHeld := hNext
              clear hNext
              try simp only [List.getElem_toArray, List.getElem_cons_succ, List.getElem_cons_zero, Act.put, List.setIfInBounds_toArray, List.set_cons_zero, List.set_cons_succ]
              refine wpAnyH_take (i := 26) (v := ?_) rfl (by kernel_rfl) (by kernel_rfl) (by kernel_rfl) (fun _ _ _ h => h) (Or.inl ⟨by rfl, ?_⟩) hHeld ?_
              rotate_left
              · (intro wS hSw; (try dsimp only at hSw); go_simp; try with_reducible rfl)
              try simp only [List.getElem_toArray, List.getElem_cons_succ, List.getElem_cons_zero, Act.put, List.setIfInBounds_toArray, List.set_cons_zero, List.set_cons_succ]
              refine wpAnyH_take (i := 27) (v := ?_) rfl (by kernel_rfl) (by kernel_rfl) (by kernel_rfl) (fun _ _ _ h => h) (Or.inl ⟨by rfl, ?_⟩) hHeld ?_
              rotate_left
              · (intro wS hSw; (try dsimp only at hSw); go_simp; try with_reducible rfl)
              try simp only [List.getElem_toArray, List.getElem_cons_succ, List.getElem_cons_zero, Act.put, List.setIfInBounds_toArray, List.set_cons_zero, List.set_cons_succ]
              refine wpAnyH_done (by kernel_rfl) ?_ _
              go_wp2_with (fail)
              go_roundw
              case rel => exact ⟨j + 1, by omega, by go_num, makes_mk hHeld⟩
              case measure => simp [intOf]; omega
            · have cl := fun W => leaf_b k v x y s h b2 (by rw [hx0, hb2]; rfl) W
              go_wp2_with (go_at_call 11; ((with_reducible refine cg.mono ?_); clear cg; rintro e W5 ⟨rfl, hb5⟩; have H5 := Lib.hid (HMk.out.below hb5); have C5 := Lib.hid (And.intro (cell_new (v := .int .i64 k) hb5 0 rfl) (And.intro (cell_new (v := .int .i64 v) hb5 1 rfl) (And.intro (cell_new (v := .int .i64 x) hb5 2 rfl) (And.intro (cell_new (v := .int .i64 y) hb5 3 rfl) (And.intro (cell_new (v := .int .i64 s) hb5 4 rfl) (cell_new (v := .int .i64 h) hb5 5 rfl)))))); clear hb5))
              refine wp_region_held_drew (S := fun W => W.cell? ⟨W5.heap.size, 0, none⟩ = some (.int .i64 k) ∧ W.cell? ⟨W5.heap.size, 1, none⟩ = some (.int .i64 v) ∧ W.cell? ⟨W5.heap.size, 2, none⟩ = some (.int .i64 x) ∧ W.cell? ⟨W5.heap.size, 3, none⟩ = some (.int .i64 y) ∧ W.cell? ⟨W5.heap.size, 4, none⟩ = some (.int .i64 s) ∧ W.cell? ⟨W5.heap.size, 5, none⟩ = some (.int .i64 h) ∧ W.cell? ⟨wr.heap.size, 0, none⟩ = some (.int .i64 k) ∧ W.cell? ⟨wr.heap.size, 1, none⟩ = some (.int .i64 v) ∧ W.cell? ⟨wr.heap.size, 2, none⟩ = some (.int .i64 x) ∧ W.cell? ⟨wr.heap.size, 3, none⟩ = some (.int .i64 y) ∧ W.cell? ⟨wr.heap.size, 4, none⟩ = some (.int .i64 s) ∧ W.cell? ⟨wr.heap.size, 5, none⟩ = some (.int .i64 h) ∧ Mk w W p R (M.map itN) (.slice (some ⟨g, 0, none⟩) M.length cp) M) (by kernel_rfl) (makes_new C5.out H5.out _ rfl) (fun hHeld => ?_)
              refine wpAnyH_take (i := 0) (v := ?_) rfl (by kernel_rfl) (by kernel_rfl) (by kernel_rfl) (fun _ _ _ h => h) (Or.inl ⟨by rfl, ?_⟩) hHeld ?_
              rotate_left
              · (intro wS hSw; (try dsimp only at hSw); go_simp; try with_reducible rfl)
              try simp only [List.getElem_toArray, List.getElem_cons_succ, List.getElem_cons_zero, Act.put, List.setIfInBounds_toArray, List.set_cons_zero, List.set_cons_succ]
              refine wpAnyH_take (i := 1) (v := ?_) rfl (by kernel_rfl) (by kernel_rfl) (by kernel_rfl) (fun _ _ _ h => h) (Or.inl ⟨by rfl, ?_⟩) hHeld ?_
              rotate_left
              · (intro wS hSw; (try dsimp only at hSw); go_simp; try with_reducible rfl)
              try simp only [List.getElem_toArray, List.getElem_cons_succ, List.getElem_cons_zero, Act.put, List.setIfInBounds_toArray, List.set_cons_zero, List.set_cons_succ]
              refine wpAnyH_take (i := 2) (v := ?_) rfl (by kernel_rfl) (by kernel_rfl) (by kernel_rfl) (fun _ _ _ h => h) (Or.inl ⟨by rfl, ?_⟩) hHeld ?_
              rotate_left
              · (intro wS hSw; (try dsimp only at hSw); go_simp; try with_reducible rfl)
              try simp only [List.getElem_toArray, List.getElem_cons_succ, List.getElem_cons_zero, Act.put, List.setIfInBounds_toArray, List.set_cons_zero, List.set_cons_succ]
              refine wpAnyH_take (i := 3) (v := ?_) rfl (by kernel_rfl) (by kernel_rfl) (by kernel_rfl) (fun _ _ _ h => h) (Or.inl ⟨by rfl, ?_⟩) hHeld ?_
              rotate_left
              · (intro wS hSw; (try dsimp only at hSw); go_simp; try with_reducible rfl)
              try simp only [List.getElem_toArray, List.getElem_cons_succ, List.getElem_cons_zero, Act.put, List.setIfInBounds_toArray, List.set_cons_zero, List.set_cons_succ]
              refine wpAnyH_take (i := 4) (v := ?_) rfl (by kernel_rfl) (by kernel_rfl) (by kernel_rfl) (fun _ _ _ h => h) (Or.inl ⟨by rfl, ?_⟩) hHeld ?_
              rotate_left
              · (intro wS hSw; (try dsimp only at hSw); go_simp; try with_reducible rfl)
              try simp only [List.getElem_toArray, List.getElem_cons_succ, List.getElem_cons_zero, Act.put, List.setIfInBounds_toArray, List.set_cons_zero, List.set_cons_succ]
              refine wpAnyH_take (i := 5) (v := ?_) rfl (by kernel_rfl) (by kernel_rfl) (by kernel_rfl) (fun _ _ _ h => h) (Or.inl ⟨by rfl, ?_⟩) hHeld ?_
              rotate_left
              · (intro wS hSw; (try dsimp only at hSw); go_simp; try with_reducible rfl)
              try simp only [List.getElem_toArray, List.getElem_cons_succ, List.getElem_cons_zero, Act.put, List.setIfInBounds_toArray, List.set_cons_zero, List.set_cons_succ]
              refine wpAnyH_take (i := 6) (v := ?_) rfl (by kernel_rfl) (by kernel_rfl) (by kernel_rfl) (fun _ _ _ h => h) (Or.inl ⟨by rfl, ?_⟩) hHeld ?_
              rotate_left
              · (intro wS hSw; (try dsimp only at hSw); go_simp; try with_reducible rfl)
              try simp only [List.getElem_toArray, List.getElem_cons_succ, List.getElem_cons_zero, Act.put, List.setIfInBounds_toArray, List.set_cons_zero, List.set_cons_succ]
              refine wpAnyH_take (i := 7) (v := ?_) rfl (by kernel_rfl) (by kernel_rfl) (by kernel_rfl) (fun _ _ _ h => h) (Or.inl ⟨by rfl, ?_⟩) hHeld ?_
              rotate_left
              · (intro wS hSw; (try dsimp only at hSw); go_simp; try with_reducible rfl)
              try simp only [List.getElem_toArray, List.getElem_cons_succ, List.getElem_cons_zero, Act.put, List.setIfInBounds_toArray, List.set_cons_zero, List.set_cons_succ]
              refine wpAnyH_take (i := 8) (v := ?_) rfl (by kernel_rfl) (by kernel_rfl) (by kernel_rfl) (fun _ _ _ h => h) (Or.inl ⟨by rfl, ?_⟩) hHeld ?_
              rotate_left
              · (intro wS hSw; (try dsimp only at hSw); go_simp; try with_reducible rfl)
              try simp only [List.getElem_toArray, List.getElem_cons_succ, List.getElem_cons_zero, Act.put, List.setIfInBounds_toArray, List.set_cons_zero, List.set_cons_succ]
              refine wpAnyH_take (i := 10) (v := ?_) rfl (by kernel_rfl) (by kernel_rfl) (by kernel_rfl) (fun _ _ _ h => h) (Or.inl ⟨by rfl, ?_⟩) hHeld ?_
              rotate_left
              · (intro wS hSw; (try dsimp only at hSw); go_simp; try with_reducible rfl)
              try simp only [List.getElem_toArray, List.getElem_cons_succ, List.getElem_cons_zero, Act.put, List.setIfInBounds_toArray, List.set_cons_zero, List.set_cons_succ]
              refine wpAnyH_take (i := 11) (v := ?_) rfl (by kernel_rfl) (by kernel_rfl) (by kernel_rfl) (fun _ _ _ h => h) (Or.inl ⟨by rfl, ?_⟩) hHeld ?_
              rotate_left
              · (intro wS hSw; (try dsimp only at hSw); go_simp; try with_reducible rfl)
              try simp only [List.getElem_toArray, List.getElem_cons_succ, List.getElem_cons_zero, Act.put, List.setIfInBounds_toArray, List.set_cons_zero, List.set_cons_succ]
              refine wpAnyH_take (i := 12) (v := ?_) rfl (by kernel_rfl) (by kernel_rfl) (by kernel_rfl) (fun _ _ _ h => h) (Or.inl ⟨by rfl, ?_⟩) hHeld ?_
              rotate_left
              · (intro wS hSw; (try dsimp only at hSw); go_simp; try with_reducible rfl)
              try simp only [List.getElem_toArray, List.getElem_cons_succ, List.getElem_cons_zero, Act.put, List.setIfInBounds_toArray, List.set_cons_zero, List.set_cons_succ]
              refine wpAnyH_ready (rs := [9]) (by kernel_rfl) (by simp) ?_
              refine AllReadyH.cons rfl (fun K hK => ?_) AllReadyH.nil
              go_simp
              (go_at_call 12; ((with_reducible refine (cl _).mono ?_); rintro e W8 ⟨rfl, hb⟩))
              refine hK.out _ _ ?_ (fun hNext => ?_)
              · exact makes_keep hb hHeld
              clear hK K hHeld
              have hHeld := hNext
              clear hNext
              try simp only [List.getElem_toArray, List.getElem_cons_succ, List.getElem_cons_zero, Act.put, List.setIfInBounds_toArray, List.set_cons_zero, List.set_cons_succ]
              refine wpAnyH_take (i := 13) (v := ?_) rfl (by kernel_rfl) (by kernel_rfl) (by kernel_rfl) (fun _ _ _ h => h) (Or.inl ⟨by rfl, ?_⟩) hHeld ?_
              rotate_left
              · (intro wS hSw; (try dsimp only at hSw); go_simp; try with_reducible rfl)
              try simp only [List.getElem_toArray, List.getElem_cons_succ, List.getElem_cons_zero, Act.put, List.setIfInBounds_toArray, List.set_cons_zero, List.set_cons_succ]
              refine wpAnyH_take (i := 14) (v := ?_) rfl (by kernel_rfl) (by kernel_rfl) (by kernel_rfl) (fun _ _ _ h => h) (Or.inl ⟨by rfl, ?_⟩) hHeld ?_
              rotate_left
              · (intro wS hSw; (try dsimp only at hSw); go_simp; try with_reducible rfl)
              try simp only [List.getElem_toArray, List.getElem_cons_succ, List.getElem_cons_zero, Act.put, List.setIfInBounds_toArray, List.set_cons_zero, List.set_cons_succ]
              refine wpAnyH_take (i := 15) (v := ?_) rfl (by kernel_rfl) (by kernel_rfl) (by kernel_rfl) (fun _ _ _ h => h) (Or.inl ⟨by rfl, ?_⟩) hHeld ?_
              rotate_left
              · (intro wS hSw; (try dsimp only at hSw); go_simp; try with_reducible rfl)
              try simp only [List.getElem_toArray, List.getElem_cons_succ, List.getElem_cons_zero, Act.put, List.setIfInBounds_toArray, List.set_cons_zero, List.set_cons_succ]
              refine wpAnyH_take (i := 16) (v := ?_) rfl (by kernel_rfl) (by kernel_rfl) (by kernel_rfl) (fun _ _ _ h => h) (Or.inl ⟨by rfl, ?_⟩) hHeld ?_
              rotate_left
              · (intro wS hSw; (try dsimp only at hSw); go_simp; try with_reducible rfl)
              try simp only [List.getElem_toArray, List.getElem_cons_succ, List.getElem_cons_zero, Act.put, List.setIfInBounds_toArray, List.set_cons_zero, List.set_cons_succ]
              refine wpAnyH_take (i := 17) (v := ?_) rfl (by kernel_rfl) (by kernel_rfl) (by kernel_rfl) (fun _ _ _ h => h) (Or.inl ⟨by rfl, ?_⟩) hHeld ?_
              rotate_left
              · (intro wS hSw; (try dsimp only at hSw); go_simp; try with_reducible rfl)
              try simp only [List.getElem_toArray, List.getElem_cons_succ, List.getElem_cons_zero, Act.put, List.setIfInBounds_toArray, List.set_cons_zero, List.set_cons_succ]
              refine wpAnyH_take (i := 18) (v := ?_) rfl (by kernel_rfl) (by kernel_rfl) (by kernel_rfl) (fun _ _ _ h => h) (Or.inl ⟨by rfl, ?_⟩) hHeld ?_
              rotate_left
              · (intro wS hSw; (try dsimp only at hSw); go_simp; try with_reducible rfl)
              try simp only [List.getElem_toArray, List.getElem_cons_succ, List.getElem_cons_zero, Act.put, List.setIfInBounds_toArray, List.set_cons_zero, List.set_cons_succ]
              refine wpAnyH_take (i := 19) (v := ?_) rfl (by kernel_rfl) (by kernel_rfl) (by kernel_rfl) (fun _ _ _ h => h) (Or.inl ⟨by rfl, ?_⟩) hHeld ?_
              rotate_left
              · (intro wS hSw; (try dsimp only at hSw); go_simp; try with_reducible rfl)
              try simp only [List.getElem_toArray, List.getElem_cons_succ, List.getElem_cons_zero, Act.put, List.setIfInBounds_toArray, List.set_cons_zero, List.set_cons_succ]
              refine wpAnyH_take (i := 20) (v := ?_) rfl (by kernel_rfl) (by kernel_rfl) (by kernel_rfl) (fun _ _ _ h => h) (Or.inl ⟨by rfl, ?_⟩) hHeld ?_
              rotate_left
              · (intro wS hSw; (try dsimp only at hSw); go_simp; try with_reducible rfl)
              try simp only [List.getElem_toArray, List.getElem_cons_succ, List.getElem_cons_zero, Act.put, List.setIfInBounds_toArray, List.set_cons_zero, List.set_cons_succ]
              refine wpAnyH_take (i := 21) (v := ?_) rfl (by kernel_rfl) (by kernel_rfl) (by kernel_rfl) (fun _ _ _ h => h) (Or.inl ⟨by rfl, ?_⟩) hHeld ?_
              rotate_left
              · (intro wS hSw; (try dsimp only at hSw); go_simp; try with_reducible rfl)
              try simp only [List.getElem_toArray, List.getElem_cons_succ, List.getElem_cons_zero, Act.put, List.setIfInBounds_toArray, List.set_cons_zero, List.set_cons_succ]
              refine wpAnyH_take (i := 22) (v := ?_) rfl (by kernel_rfl) (by kernel_rfl) (by kernel_rfl) (fun _ _ _ h => h) (Or.inl ⟨by rfl, ?_⟩) hHeld ?_
              rotate_left
              · (intro wS hSw; (try dsimp only at hSw); go_simp; try with_reducible rfl)
              try simp only [List.getElem_toArray, List.getElem_cons_succ, List.getElem_cons_zero, Act.put, List.setIfInBounds_toArray, List.set_cons_zero, List.set_cons_succ]
              refine wpAnyH_take (i := 23) (v := ?_) rfl (by kernel_rfl) (by kernel_rfl) (by kernel_rfl) (fun _ _ _ h => h) (Or.inl ⟨by rfl, ?_⟩) hHeld ?_
              rotate_left
              · (intro wS hSw; (try dsimp only at hSw); go_simp; try with_reducible rfl)
              try simp only [List.getElem_toArray, List.getElem_cons_succ, List.getElem_cons_zero, Act.put, List.setIfInBounds_toArray, List.set_cons_zero, List.set_cons_succ]
              refine wpAnyH_take (i := 24) (v := ?_) rfl (by kernel_rfl) (by kernel_rfl) (by kernel_rfl) (fun _ _ _ h => h) (Or.inl ⟨by rfl, ?_⟩) hHeld ?_
              rotate_left
              · (intro wS hSw; (try dsimp only at hSw); go_simp; try with_reducible rfl)
              try simp only [List.getElem_toArray, List.getElem_cons_succ, List.getElem_cons_zero, Act.put, List.setIfInBounds_toArray, List.set_cons_zero, List.set_cons_succ]
              refine wpAnyH_ready (rs := [25]) (by kernel_rfl) (by simp) ?_
              refine AllReadyH.cons rfl (fun K hK => ?_) AllReadyH.nil
              go_simp
              (go_at_call 13; ((with_reducible refine (ch _).mono ?_); rintro e W9 ⟨rfl, hb⟩))
              refine hK.out _ _ ?_ (fun hNext => ?_)
              · exact makes_keep hb hHeld
              clear hK K hHeld
              have hHeld := hNext
              clear hNext
              try simp only [List.getElem_toArray, List.getElem_cons_succ, List.getElem_cons_zero, Act.put, List.setIfInBounds_toArray, List.set_cons_zero, List.set_cons_succ]
              refine wpAnyH_take (i := 26) (v := ?_) rfl (by kernel_rfl) (by kernel_rfl) (by kernel_rfl) (fun _ _ _ h => h) (Or.inl ⟨by rfl, ?_⟩) hHeld ?_
              rotate_left
              · (intro wS hSw; (try dsimp only at hSw); go_simp; try with_reducible rfl)
              try simp only [List.getElem_toArray, List.getElem_cons_succ, List.getElem_cons_zero, Act.put, List.setIfInBounds_toArray, List.set_cons_zero, List.set_cons_succ]
              refine wpAnyH_take (i := 27) (v := ?_) rfl (by kernel_rfl) (by kernel_rfl) (by kernel_rfl) (fun _ _ _ h => h) (Or.inl ⟨by rfl, ?_⟩) hHeld ?_
              rotate_left
              · (intro wS hSw; (try dsimp only at hSw); go_simp; try with_reducible rfl)
              try simp only [List.getElem_toArray, List.getElem_cons_succ, List.getElem_cons_zero, Act.put, List.setIfInBounds_toArray, List.set_cons_zero, List.set_cons_succ]
              refine wpAnyH_done (by kernel_rfl) ?_ _
              go_wp2_with (fail)
              go_roundw
              case rel => exact ⟨j + 1, by omega, by go_num, makes_mk hHeld⟩
              case measure => simp [intOf]; omega
          · obtain rfl : j = M.length := by omega
            have hw2 : wrap64 ((M.length : Int) + 1) = (M.length : Int) + 1 := by unfold wrap64; omega
            have cg := hMk.get_no ((M.length : Int) + 1) (by rw [itN_kind M _ (.inr (by omega))]; omega)
            have HMk := Lib.hid hMk
            clear hMk
            go_wp2_with (first
              | (go_at_call 11; ((with_reducible refine cg.mono ?_); clear cg; rintro e W5 ⟨rfl, hb5⟩; have H5 := Lib.hid (HMk.out.below hb5); clear hb5))
              | (go_at_call 8; ((with_reducible refine (awake_any _).mono ?_); rintro e W6 ⟨rfl, hb6⟩; have H6 := Lib.hid (below_past (Below.refl _ _) hb6); clear hb6)))
            go_ret
            exact ⟨rfl, (H5.out.below H6.out).b⟩

set_option maxRecDepth 100000 in
theorem lifted (os : Os) (started : os.Started) (H : Type) (enc : TypeId × Value → H) :
    ReturnsInHanded {} Try.checked os 3 .any (Rows.nodeMakesSpec.pre6 enc Try.prog Try.f3 Rows.nodeMakesRow.domain false) (Rows.nodeMakesSpec.post enc Try.prog Try.f3 false true false false) := by
  refine returnsInHanded_of_change (C := Try.checked) own started (by kernel_rfl) Try.func3
    (ChangeSpec.witness6 (enc := enc) (C := Try.checked) false ⟨#[], #[.int .i64 0, .slice none 0 0], []⟩ 8 (by kernel_rfl) (by kernel_rfl) (by kernel_rfl) (by kernel_rfl)) ?_
  intro W base args ds gs before hval0 hW hcnd _
  have hval : ∀ (j : Nat) t v, Try.f3.params[j]? = some t → args[j]? = some v → Value.okWide Try.prog W .any base t v := hval0
  have hW' := hW
  obtain ⟨p, q, hA0, hV, rfl, hfz, hnd⟩ := hW
  have hA : DataW.TrodAll enc Try.prog W 0 (fun _ => true) true Try.f3.params.toList args.toList ds p := hA0
  rw [Try.params3] at hA hval
  obtain ⟨v0, vs0, d0, ds0, p0, q0, hargs, rfl, rfl, h0, r0⟩ := trodAll_cons hA
  obtain ⟨v1, vs1, d1, ds1, p1, q1, rfl, rfl, rfl, h1, r1⟩ := trodAll_cons r0
  obtain ⟨rfl, rfl, rfl⟩ := trodAll_nil r1
  obtain rfl : args = #[v0, v1] := by cases args; simp_all
  obtain ⟨rfl, rfl⟩ := trodVars_none hV
  have k0 := h0
  have lt0 : ∀ x ∈ p0, x.block < W.heap.size := by obtain ⟨m, hm⟩ := k0; exact DataW.trod_lt m _ _ _ hm
  obtain ⟨a0, rfl, rfl, rfl, w0⟩ := open_int Try.underlying3 (hval 0 3 v0 rfl rfl) h0
  have k1 := h1
  have lt1 : ∀ x ∈ p1, x.block < W.heap.size := by obtain ⟨m, hm⟩ := k1; exact DataW.trod_lt m _ _ _ hm
  obtain ⟨b1, l1, c1, rfl⟩ := okWide_slice Try.underlying22 (hval 1 22 v1 rfl rfl)
  obtain ⟨a1, len1, cap1, z1, e1, w1⟩ := open_steps (enc := enc) (w := W) (v := .slice b1 l1 c1) (fuel := h1.choose) (by simpa [Value.cells] using h1.choose_spec)
  rw [e1] at hval k1 h1 hW' hval0 hA0
  clear hA0 hval0
  rw [e1]; refine (walk a0 a1 len1 cap1 z1 W w0 w1).mono fun e W' ⟨he, bel⟩ => ?_
  subst he
  exact ⟨_, rfl, _, _, _, [], _, [], hW', trodAll_mk1 (shut_bool Try.underlying4 _), (trodAll_cons_mk (Below.trod laidOut (by kernel_rfl) (of_decide_eq_true (by kernel_rfl)) k0 bel lt0) (trodAll_cons_mk (Below.trod laidOut (by kernel_rfl) (of_decide_eq_true (by kernel_rfl)) k1 bel lt1) trodAll_mk0)), rfl, bel.frame _, fun h => by cases h⟩

theorem over : Rows.nodeMakesRow.holds Try.pinned (OpenSpec.ofChange Rows.nodeMakesSpec) :=
  OpenClaim.holds_of_wide 3 Try.f3 rfl rfl rfl rfl rfl rfl rfl ⟨rfl, rfl, rfl, rfl, rfl⟩ rfl rfl rfl rfl rfl (by kernel_rfl) Try.func3 (by kernel_rfl)
    (of_decide_eq_true (by kernel_rfl)) (by unfold Func.isWrapper; first | (rw [if_pos (by decide +kernel)]; kernel_rfl) | (rw [if_neg (by decide +kernel)]; exact ⟨rfl, rfl⟩))
    (fun os started H enc _ => lifted os started H enc)

theorem nodeMakesHolds : Rows.NodeMakesSaid := over
#print axioms nodeMakesHolds
end Go.Proofs.Ytpcfnnegialegaa.nodeMakes
