/- 'osierlaw10.SoundTurned' returns true for every slice of pairs and every integer. No condition. -/
import Derived.Test.YtbmlpdkbiipcmaaRows
import Derived.Test.YtbmlpdkbiipcmaaSoA
import Derived.Test.YtbmlpdkbiipcmaaNForm
import Derived.Test.YtbmlpdkbiipcmaaSoX
import Derived.LoopTactic
import Derived.WalkKit
import Derived.ProofKit
import Derived.OpenShut
import Derived.ChangeOld
import Derived.Below
namespace Go.Proofs.Ytbmlpdkbiipcmaa.soundTurned
open Go.ChangeShapes Go.WideShapes Go.ChangeAt Go.RowKit
set_option linter.all false

theorem own : ownKnob Try.prog.godebug = none := by kernel_rfl
theorem laidOut : laidOutB Try.prog = true := by kernel_rfl

section
variable {w W : World} {p : Nat} {F : Nat → Prop} {room st : Int} {L : List It} {b c : Nat}
/-- arena.Make of values that the caller writes out, beside blocks of its own. -/
theorem wk_make (H : Wk w W p F room st L b c) (vs : List Int) (cs : Array Value) (m : Nat) (n : Int) (hv : vs.length ≤ 12) (hm : vs.length = m) (hcs : cs = (vs.map (Value.int .i64)).toArray) (hr : (L.length : Int) < room) (hn : n = L.length + 1) :
    Calls Try.prog 19 #[.pointer (some ⟨p, 0, none⟩), .int .i64 1, .slice (some ⟨W.heap.size, 0, none⟩) m m] (W.alloc (.cells cs 3)) fun e w' =>
      e = .returned (.tuple #[.int .i64 n, .int .i64 0]) ∧ Grew W p (fun k => Plus F w W k ∧ k ≠ b ∧ k ≠ c) room st (L ++ [(1, vs)]) w' := by
  subst hn; subst hm; subst hcs
  refine (make_ok 1 vs _ _ p _ room st L (H.a.fresh _) (by decide) hv hr (.inr ⟨⟨W.heap.size, 0, none⟩, vs.length, rfl, .inr (fun hh => hh.2 rfl), by unfold maxLen; omega, fun j hj => ?_⟩)).mono fun e w' ⟨he, ha, ho⟩ =>
    ⟨by rw [he]; simp, Grew.since ⟨ha, ho⟩ ((Below.refl _ _).alloc (Nat.le_refl _) _) (fun k hk => hk.1)⟩
  rw [add_lit]
  simp [List.getD, hj]
theorem wk_nmake (H : Wk w W p F room st L b c) (k v lt rt sl hl sr hr n s hh : Int) (h1 : Hung L lt sl hl) (h2 : Hung L rt sr hr) (hroom : (L.length : Int) < room)
    (b1 : 0 ≤ sl ∧ sl ≤ 4611686018427387900) (b2 : 0 ≤ sr ∧ sr ≤ 4611686018427387900) (b3 : 0 ≤ hl ∧ hl ≤ 4611686018427387900) (b4 : 0 ≤ hr ∧ hr ≤ 4611686018427387900)
    (hn : n = L.length + 1) (hs : s = sl + sr + 1) (hhh : hh = max hl hr + 1) :
    Calls Try.prog 14 #[.pointer (some ⟨p, 0, none⟩), .agg #[.int .i64 k, .int .i64 v], .int .i64 lt, .int .i64 rt] W fun e w' => e = .returned (.tuple #[.int .i64 n, .int .i64 0]) ∧ Grew W p (fun k => Plus F w W k ∧ k ≠ b ∧ k ≠ c) room st (L ++ [(1, [k, v, lt, rt, s, hh])]) w' := by
  have es : oneM sl sr = s := by rw [oneM_small b1.1 (by omega) (by omega)]; omega
  have eh : oneM (max hl hr) 0 = hh := by rw [oneM_high (by omega) (by omega)]; omega
  subst hn
  refine (nmake_ok k v H.a h1 h2 hroom).mono fun e w' ⟨he, ha, ho⟩ => ?_
  rw [es, eh] at ha
  exact ⟨by rw [he]; simp, ha, ho⟩
theorem wk_held {w0 : World} (h : Held w0 w p room st L) {L' : List It} (H : Wk w W p (fun k => w0.heap.size ≤ k) room st L' b c) : Held w0 W p room st L' := h.only H.grew.1 H.grew.2 (fun _ hk => hk)
/-- What May tells of the three nodes. -/
theorem turned_may {L : List It} {t x y k v : Int} {A B : List Pr} (ap : Apart L t x y A B (k, v)) (hl : A.length + B.length + 1 ≤ 30) (hxy : ¬ (x = 0 ∧ y = 0)) {sz hg X Y n1 n2 n3 : Int} (hsz : ((A.length + B.length + 1 : Nat) : Int) = sz) (hhg : ((1 + max (hi A) (hi B) : Nat) : Int) = hg)
    {L1 L2 L3 : List It} (e1 : L ++ [(1, [k, v, y, x, sz, hg])] = L1) (e2 : L1 ++ [(1, [k, v, x, y, X, hg])] = L2) (e3 : L2 ++ [(1, [k, v, x, y, sz, Y])] = L3) (h1 : n1 = (L.length : Int) + 1) (h2 : n2 = (L1.length : Int) + 1) (h3 : n3 = (L2.length : Int) + 1) :
    mayL L3 n1 = false ∧ mayL L3 n2 = (X == sz) ∧ mayL L3 n3 = (Y == hg) := by
  have hp := ap.srt.parts
  have tA : Tree L3 x A := by rw [← e3, ← e2, ← e1]; exact ((ap.tx.app _).app _).app _
  have tB : Tree L3 y B := by rw [← e3, ← e2, ← e1]; exact ((ap.ty.app _).app _).app _
  have i1 : itemAt L3 n1 = some (1, [k, v, y, x, sz, hg]) := by rw [← e3, ← e2, ← e1]; exact itemAt_app (itemAt_app (itemAt_new _ _ _ h1) _) _
  have i2 : itemAt L3 n2 = some (1, [k, v, x, y, X, hg]) := by rw [← e3, ← e2]; exact itemAt_app (itemAt_new _ _ _ h2) _
  have i3 : itemAt L3 n3 = some (1, [k, v, x, y, sz, Y]) := by rw [← e3]; exact itemAt_new _ _ _ h3
  have l1 : L1.length = L.length + 1 := by rw [← e1]; simp
  have l2 : L2.length = L1.length + 1 := by rw [← e2]; simp
  have hx := (ap.tx.hung (by omega)).2
  have hy := (ap.ty.hung (by omega)).2
  have hne : B ≠ [] ∨ A ≠ [] := by
    by_cases hB : B = []
    · refine .inr (fun hA => hxy ⟨?_, ?_⟩)
      · rcases ap.tx.says with ⟨h, _⟩ | ⟨_, _, _, _, _, h, _⟩
        · exact h
        · rw [hA] at h; simp at h
      · rcases ap.ty.says with ⟨h, _⟩ | ⟨_, _, _, _, _, h, _⟩
        · exact h
        · rw [hB] at h; simp at h
    · exact .inl hB
  refine ⟨may_turned i1 tB tA (by omega) (by omega) hp.2.1 hp.1 (by omega) hp.2.2.2 hp.2.2.1 hne, ?_, ?_⟩
  · rw [may_over i2 tA tB (by omega) (by omega) ap.srt (by omega) ap.top, hsz, hhg]
    simp
  · rw [may_over i3 tA tB (by omega) (by omega) ap.srt (by omega) ap.top, hsz, hhg]
    simp
end

set_option maxRecDepth 100000 in
set_option maxHeartbeats 12800000 in
theorem walk (a0 : Option Addr) (cap0 : Nat) (z0 : List Pr) (a1 : Int) (w : World) (w0 : Prs w a0 cap0 z0) (r0 : Rng z0) (w1 : (Lit.int .i64 a1).wf = true) :
    Calls Try.prog 4 #[.slice a0 z0.length cap0, .int .i64 a1] w fun e w' => e = .returned (.bool true) ∧ Below w.heap.size w w' := by
  have cp : Calls Try.prog 7 #[.slice a0 z0.length cap0, .int .i64 30] w (PairsIs w 30) := pairs_srt a0 cap0 z0 30 w w0 r0 (by omega)
  have hc0 := w0.1
  have hc1 := w0.2.1
  clear w0 r0
  unfold maxLen at hc1
  go_enter Try.func4, Try.ntmps4
  go_upto_region 4 with (first
    | (go_at_call 7; ((with_reducible refine cp.mono ?_); clear cp; rintro e W2 ⟨ao, c, l, rfl, hl, hs, hr, hP, hbw⟩; have hP1 := hP.1; have hP2 := hP.2.1; have HP := Lib.hid hP; have HS := Lib.hid hs; have HRR := Lib.hid hr; have HBW := Lib.hid hbw; clear hP hs hr hbw; unfold maxLen at hP2))
    | (go_at_call 8; ((with_reducible refine (new_held 200 200 W2 _ (Below.refl _ _) (by decide)).mono ?_); rintro e W3 ⟨p, rfl, h1⟩))
    | (go_at_call 9; ((with_reducible refine (laid_any W2 p _ _ _ ao c l _ [] (Nat.le_refl _) HP.out h1 Good.nil (by simp; omega) (by omega)).mono ?_); rintro e W4 ⟨t, L, rfl, h4, n4, t4, g4⟩; rw [List.nil_append] at h4 t4; have T4 := Lib.hid t4; clear t4 g4 h1)))
  rcases T4.out.apart HS.out with ⟨rfl, rfl⟩ | ⟨x, y, A, B, q, rfl, ap⟩
  · go_wp2_with (first
      | (go_at_call 17; ((with_reducible refine (get_held_no h4 0 (by rw [kindL_zero L 0 (by decide)]; decide)).mono ?_); rintro e W5 ⟨rfl, h5⟩; clear h4))
      | (go_at_call 13; ((with_reducible refine (sawake_any _).mono ?_); rintro e W6 ⟨rfl, hb⟩)))
    go_ret
    have h6 := (h5.alloc (.cells #[.int .i64 0, .int .i64 0, .int .i64 0, .int .i64 0, .int .i64 0, .int .i64 0] 41)).below hb
    exact ⟨rfl, HBW.out.trans (h6.b.mono HBW.out.size)⟩
  · obtain ⟨k, v⟩ := q
    obtain ⟨n0, e0, e1, e2, e3, e4, e5⟩ := node_says ap.item
    have HAP := Lib.hid ap
    clear ap
    have cg := get_held h4 t _ _ _ _ _ _ n0 e0 e1 e2 e3 e4 e5
    clear n0 e0 e1 e2 e3 e4 e5
    dsimp only at cg
    have ES := Lib.hid (rfl : ((A.length + B.length + 1 : Nat) : Int) = ((A.length + B.length + 1 : Nat) : Int))
    obtain ⟨sz, hsz⟩ : ∃ s : Int, ((A.length + B.length + 1 : Nat) : Int) = s := ⟨_, rfl⟩
    obtain ⟨hg, hhg⟩ : ∃ s : Int, ((1 + max (hi A) (hi B) : Nat) : Int) = s := ⟨_, rfl⟩
    rw [hsz, hhg] at cg
    have HSZ := Lib.hid (And.intro hsz hhg)
    clear hsz hhg ES
    by_cases hxy : x = 0 ∧ y = 0
    · obtain ⟨rfl, rfl⟩ := hxy
      have cl := fun W => leaf_any k v 0 0 sz hg W
      rw [show ((0 : Int) == 0 && (0 : Int) == 0) = true from rfl] at cl
      have hpos : (0 : Int) < (A.length : Int) + ((B.length : Int) + 1) := by omega
      have hgt : decide ((0 : Int) < (A.length : Int) + ((B.length : Int) + 1)) = true := decide_eq_true hpos
      go_wp2_with (first
        | (go_at_call 17; ((with_reducible refine cg.mono ?_); clear cg; rintro e W5 ⟨rfl, h5⟩; clear h4))
        | (go_at_call 18; ((with_reducible refine (cl _).mono ?_); clear cl; rintro e W6 ⟨rfl, hb6⟩; have h6 := (h5.alloc (.cells #[.int .i64 k, .int .i64 v, .int .i64 0, .int .i64 0, .int .i64 sz, .int .i64 hg] 41)).below hb6; clear h5 hb6))
        | (go_at_call 13; ((with_reducible refine (sawake_any _).mono ?_); rintro e W7 ⟨rfl, hb⟩; have h7 := h6.below hb; clear h6 hb)))
      go_ret
      exact ⟨rfl, HBW.out.trans (h7.b.mono HBW.out.size)⟩
    · have cl := fun W => leaf_any k v x y sz hg W
      have hlf : (x == 0 && y == 0) = false := by
        cases hh : (x == 0 && y == 0)
        · rfl
        · rw [Bool.and_eq_true, beq_iff_eq, beq_iff_eq] at hh
          exact absurd hh hxy
      rw [hlf] at cl
      have HXY := Lib.hid hxy
      clear hxy hlf
      go_upto_region 7 with (first
        | (go_at_call 17; ((with_reducible refine cg.mono ?_); clear cg; rintro e W5 ⟨rfl, h5⟩; clear h4))
        | (go_at_call 18; ((with_reducible refine (cl _).mono ?_); clear cl; rintro e W6 ⟨rfl, hb6⟩)))
      have hb6' := ((Below.refl W5.heap.size W5).alloc (Nat.le_refl _) (.cells #[.int .i64 k, .int .i64 v, .int .i64 x, .int .i64 y, .int .i64 sz, .int .i64 hg] 41)).trans (hb6.mono (by simp))
      have N6 := (Six.new W5 k v x y sz hg 41).toNodeAt.keep hb6
      have K6 := Wk.begin h5.a hb6' (Nat.le_refl W5.heap.size) (Nat.le_refl W5.heap.size) N6.lt N6.lt
      generalize W5.heap.size = nb at *
      have H5 := Lib.hid h5
      clear h5 hb6 hb6'
      have gA := (HAP.out.tx.hung (by have := HSZ.out; simp at hl; omega)).1
      have gB := (HAP.out.ty.hung (by have := HSZ.out; simp at hl; omega)).1
      have hiA := hi_le _ A (Nat.le_refl _)
      have hiB := hi_le _ B (Nat.le_refl _)
      have hlen : A.length + B.length + 1 ≤ 30 := by rw [List.length_append, List.length_cons] at hl; omega
      have n4' : L.length = A.length + B.length + 1 := by rw [n4, List.length_append, List.length_cons]; omega
      obtain ⟨n1, hn1⟩ : ∃ n : Int, n = (L.length : Int) + 1 := ⟨_, rfl⟩
      obtain ⟨L1, hL1⟩ : ∃ L1, L ++ [(1, [k, v, y, x, sz, hg])] = L1 := ⟨_, rfl⟩
      have cu := wk_nmake K6 k v y x _ _ _ _ n1 sz hg gB gA (by omega) ⟨by omega, by omega⟩ ⟨by omega, by omega⟩ ⟨by omega, by omega⟩ ⟨by omega, by omega⟩ hn1 (by have := HSZ.out; omega) (by have := HSZ.out; omega)
      rw [hL1] at cu
      have NL := Lib.hid (show L1.length = L.length + 1 ∧ L.length ≤ 30 ∧ n1 = (L.length : Int) + 1 from ⟨by rw [← hL1]; simp, by omega, hn1⟩)
      have HL1 := Lib.hid hL1
      have HK6 := Lib.hid K6
      have NN6 := Lib.hid N6
      obtain ⟨c0, c1, c2, c3, c4, c5⟩ := N6
      clear gA gB hiA hiB hn1 hL1 K6
      go_upto_region 8 with (first
        | (go_at_call 14; ((with_reducible refine cu.mono ?_); clear cu; rintro e W7 ⟨rfl, m7⟩; have K7 := HK6.out.go m7; have N7 := Wk.node m7 NN6.out; have HK7 := Lib.hid K7; have NN7 := Lib.hid N7; clear c0 c1 c2 c3 c4 c5 m7 K7; obtain ⟨c0, c1, c2, c3, c4, c5⟩ := N7)))
      obtain ⟨n2, hn2⟩ : ∃ n : Int, n = (L1.length : Int) + 1 := ⟨_, rfl⟩
      obtain ⟨L2, hL2⟩ : ∃ M, L1 ++ [(1, [k, v, x, y, bits .xor .i64 sz a1, hg])] = M := ⟨_, rfl⟩
      obtain ⟨n3, hn3⟩ : ∃ n : Int, n = (L2.length : Int) + 1 := ⟨_, rfl⟩
      obtain ⟨L3, hL3⟩ : ∃ M, L2 ++ [(1, [k, v, x, y, sz, bits .xor .i64 hg a1])] = M := ⟨_, rfl⟩
      have l2 : L2.length = L1.length + 1 := by rw [← hL2]; simp
      have hb := hi_le _ A (Nat.le_refl _)
      have hb' := hi_le _ B (Nat.le_refl _)
      have wa := wf_range w1
      have MM := turned_may HAP.out hlen HXY.out HSZ.out.1 HSZ.out.2 HL1.out hL2 hL3 NL.out.2.2 hn2 hn3
      rw [xor_self0 sz a1 (by have := HSZ.out; omega) (by omega), xor_self0 hg a1 (by have := HSZ.out; omega) (by omega)] at MM
      have HM := Lib.hid MM
      have NN := Lib.hid (show n2 = (L1.length : Int) + 1 ∧ n3 = (L2.length : Int) + 1 ∧ (L1.length : Int) < 200 ∧ (L2.length : Int) < 200 from ⟨hn2, hn3, by have := NL.out; omega, by have := NL.out; omega⟩)
      have HL2 := Lib.hid hL2
      have HL3 := Lib.hid hL3
      clear hn2 hL2 hn3 hL3 l2 hb hb' wa MM n4'
      go_upto_region 9 with (first
        | (go_at_call 19; ((with_reducible refine (wk_make HK7.out [k, v, x, y, bits .xor .i64 sz a1, hg] #[.int .i64 k, .int .i64 v, .int .i64 x, .int .i64 y, .int .i64 (bits .xor .i64 sz a1), .int .i64 hg] 6 n2 (by simp) rfl rfl NN.out.2.2.1 NN.out.1).mono ?_); rintro e W8 ⟨rfl, m8⟩; rw [HL2.out] at m8; have K8 := HK7.out.go m8; have N8 := Wk.node m8 NN7.out; have HK8 := Lib.hid K8; clear c0 c1 c2 c3 c4 c5 m8 K8; obtain ⟨c0, c1, c2, c3, c4, c5⟩ := N8)))
      go_upto_region 10 with (first
        | (go_at_call 19; ((with_reducible refine (wk_make HK8.out [k, v, x, y, sz, bits .xor .i64 hg a1] #[.int .i64 k, .int .i64 v, .int .i64 x, .int .i64 y, .int .i64 sz, .int .i64 (bits .xor .i64 hg a1)] 6 n3 (by simp) rfl rfl NN.out.2.2.2 NN.out.2.1).mono ?_); rintro e W9 ⟨rfl, m9⟩; rw [HL3.out] at m9; have h9 := wk_held H5.out (HK8.out.go m9); clear c0 c1 c2 c3 c4 c5 m9)))
      cases hq : (a1 == 0)
      all_goals
        rw [hq] at HM
        go_wp2_with (first
          | (go_at_call 10; ((with_reducible refine (tmay h9 n1 _ HM.out.1).mono ?_); rintro e W10 ⟨rfl, hb10⟩; have h10 := h9.below hb10; clear h9 hb10))
          | (go_at_call 10; ((with_reducible refine (tmay h10 n2 _ HM.out.2.1).mono ?_); rintro e W11 ⟨rfl, hb11⟩; have h11 := h10.below hb11; clear h10 hb11))
          | (go_at_call 10; ((with_reducible refine (tmay h11 n3 _ HM.out.2.2).mono ?_); rintro e W12 ⟨rfl, hb12⟩; have h12 := h11.below hb12; clear h11 hb12))
          | (go_at_call 13; ((with_reducible refine (sawake_any _).mono ?_); rintro e W13 ⟨rfl, hb13⟩; have h13 := h12.below hb13; clear h12 hb13)))
        go_ret
        exact ⟨rfl, HBW.out.trans (h13.b.mono HBW.out.size)⟩

set_option maxRecDepth 100000 in
theorem lifted (os : Os) (started : os.Started) (H : Type) (enc : TypeId × Value → H) :
    ReturnsInHanded {} Try.checked os 4 .any (Rows.soundTurnedSpec.pre6 enc Try.prog Try.f4 Rows.soundTurnedRow.domain false) (Rows.soundTurnedSpec.post enc Try.prog Try.f4 false true false false) := by
  refine returnsInHanded_of_change (C := Try.checked) own started (by kernel_rfl) Try.func4
    (ChangeSpec.witness6 (enc := enc) (C := Try.checked) false ⟨#[], #[.slice none 0 0, .int .i64 0], []⟩ 8 (by kernel_rfl) (by kernel_rfl) (by kernel_rfl) (by kernel_rfl)) ?_
  intro W base args ds gs before hval0 hW hcnd _
  have hval : ∀ (j : Nat) t v, Try.f4.params[j]? = some t → args[j]? = some v → Value.okWide Try.prog W .any base t v := hval0
  have hW' := hW
  obtain ⟨p, q, hA0, hV, rfl, hfz, hnd⟩ := hW
  have hA : DataW.TrodAll enc Try.prog W 0 (fun _ => true) true Try.f4.params.toList args.toList ds p := hA0
  rw [Try.params4] at hA hval
  obtain ⟨v0, vs0, d0, ds0, p0, q0, hargs, rfl, rfl, h0, r0⟩ := trodAll_cons hA
  obtain ⟨v1, vs1, d1, ds1, p1, q1, rfl, rfl, rfl, h1, r1⟩ := trodAll_cons r0
  obtain ⟨rfl, rfl, rfl⟩ := trodAll_nil r1
  obtain rfl : args = #[v0, v1] := by cases args; simp_all
  obtain ⟨rfl, rfl⟩ := trodVars_none hV
  have k0 := h0
  have lt0 : ∀ x ∈ p0, x.block < W.heap.size := by obtain ⟨m, hm⟩ := k0; exact DataW.trod_lt m _ _ _ hm
  obtain ⟨b0, l0, c0, rfl⟩ := okWide_slice Try.underlying22 (hval 0 22 v0 rfl rfl)
  obtain ⟨a0, cap0, z0, e0, w0, g0⟩ := open_pairsw (enc := enc) (w := W) (v := .slice b0 l0 c0) (fuel := h0.choose) (by simpa [Value.cells] using h0.choose_spec)
  rw [e0] at hval k0 h0 hW' hval0 hA0
  have k1 := h1
  have lt1 : ∀ x ∈ p1, x.block < W.heap.size := by obtain ⟨m, hm⟩ := k1; exact DataW.trod_lt m _ _ _ hm
  obtain ⟨a1, rfl, rfl, rfl, w1⟩ := open_int Try.underlying3 (hval 1 3 v1 rfl rfl) h1
  clear hA0 hval0
  rw [e0]; refine (walk a0 cap0 z0 a1 W w0 g0 w1).mono fun e W' ⟨he, bel⟩ => ?_
  subst he
  exact ⟨_, rfl, _, _, _, [], _, [], hW', trodAll_mk1 (shut_bool Try.underlying4 _), (trodAll_cons_mk (Below.trod laidOut (by kernel_rfl) (of_decide_eq_true (by kernel_rfl)) k0 bel lt0) (trodAll_cons_mk (Below.trod laidOut (by kernel_rfl) (of_decide_eq_true (by kernel_rfl)) k1 bel lt1) trodAll_mk0)), rfl, bel.frame _, fun h => by cases h⟩

theorem over : Rows.soundTurnedRow.holds Try.pinned (OpenSpec.ofChange Rows.soundTurnedSpec) :=
  OpenClaim.holds_of_wide 4 Try.f4 rfl rfl rfl rfl rfl rfl rfl ⟨rfl, rfl, rfl, rfl, rfl⟩ rfl rfl rfl rfl rfl (by kernel_rfl) Try.func4 (by kernel_rfl)
    (of_decide_eq_true (by kernel_rfl)) (by unfold Func.isWrapper; first | (rw [if_pos (by decide +kernel)]; kernel_rfl) | (rw [if_neg (by decide +kernel)]; exact ⟨rfl, rfl⟩))
    (fun os started H enc _ => lifted os started H enc)

theorem soundTurnedHolds : Rows.SoundTurnedSaid := over
#print axioms soundTurnedHolds
end Go.Proofs.Ytbmlpdkbiipcmaa.soundTurned
