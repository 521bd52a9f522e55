/- AdaptNext (P15.2): of a tree of at most 450 nodes and 2000 pairs that may be, the neighbour that Next tells of a leaf stands beside it among Leaves; it tells one just if there are two leaves or more. No condition but that of the form. -/
import Derived.Test.YteebceecohhegaaRows
import Derived.Test.YteebceecohhegaaAeL
import Derived.OwnWalk
import Derived.LoopTactic
import Derived.WalkKit
import Derived.ProofKit
import Derived.OpenShut
import Derived.ChangeOld
import Derived.Below
namespace Go.Proofs.Yteebceecohhegaa.adaptNext
open Go.ChangeShapes Go.WideShapes Go.ChangeAt Go.RowKit
set_option linter.all false

theorem own : ownKnob Try.prog.godebug = none := by kernel_rfl
theorem laidOut : laidOutB Try.prog = true := by kernel_rfl

set_option maxRecDepth 100000 in
set_option maxHeartbeats 6400000 in
theorem walk_big (t0 : Int) (a0 : Option Addr) (cap0 : Nat) (N0 : List Nd) (w : World) (w0 : Ns w a0 cap0 N0) (s0 : Mid N0) (a1 : Int) (hL : ¬ Lgt N0) :
    Calls Try.prog 6 #[.agg #[.int .i64 t0, .slice a0 N0.length cap0], .int .i64 a1] w fun e w' => e = .returned (.bool true) ∧ Below w.heap.size w w' := by
  have b1 : Below w.heap.size w (w.alloc (.cells #[.int .i64 t0, .slice a0 N0.length cap0] 24)) := al1 _
  have cl := light_any t0 a0 cap0 N0 _ (w0.keep b1) s0 1 (fun h => absurd h hL) (fun _ => rfl)
  have caw := fun W => awake_any W
  have HB := Lib.hid b1
  unfold trv at cl
  clear b1 w0 s0 hL
  go_enter Try.func6, Try.ntmps6
  go_wp2_with (first
    | (go_at_call 8; ((with_reducible refine cl.mono ?_); clear cl; rintro e W3 ⟨rfl, hb3⟩; have HB3 := Lib.hid (bel2 HB.out hb3); clear hb3))
    | (go_at_call 9; ((with_reducible refine (caw _).mono ?_); clear caw; rintro e W4 ⟨rfl, hb4⟩; have HB4 := Lib.hid (bel2 HB3.out hb4); clear hb4))
    | fail)
  go_ret
  exact ⟨rfl, HB4.out⟩
set_option maxRecDepth 100000 in
set_option maxHeartbeats 6400000 in
theorem walk_no (t0 : Int) (a0 : Option Addr) (cap0 : Nat) (N0 : List Nd) (w : World) (w0 : Ns w a0 cap0 N0) (s0 : Mid N0) (a1 : Int) (hL : Lgt N0) (hT : ∀ s, ¬ Tr N0 s t0) :
    Calls Try.prog 6 #[.agg #[.int .i64 t0, .slice a0 N0.length cap0], .int .i64 a1] w fun e w' => e = .returned (.bool true) ∧ Below w.heap.size w w' := by
  have b1 : Below w.heap.size w (w.alloc (.cells #[.int .i64 t0, .slice a0 N0.length cap0] 24)) := al1 _
  have cl := light_any t0 a0 cap0 N0 _ (w0.keep b1) s0 0 (fun _ => rfl) (fun h => absurd hL h)
  have cm := fun W (hb : Below w.heap.size w W) => tmay_any t0 a0 cap0 N0 W (w0.keep hb) hL.small false ⟨fun h => (by cases h), fun ⟨s, hs⟩ => absurd hs (hT s)⟩
  have caw := fun W => awake_any W
  have HB := Lib.hid b1
  have G1 := Lib.hid (Bk.new w #[.int .i64 t0, .slice a0 N0.length cap0] 24)
  unfold trv at cl cm
  clear b1 w0 s0 hL hT
  go_enter Try.func6, Try.ntmps6
  go_wp2_with (first
    | (go_at_call 8; ((with_reducible refine cl.mono ?_); clear cl; rintro e W3 ⟨rfl, hb3⟩; have HB3 := Lib.hid (bel2 HB.out hb3); have k0 := (G1.out.keep hb3).at_ 0 _ rfl; have k1 := (G1.out.keep hb3).at_ 1 _ rfl; clear hb3))
    | (go_at_call 19; ((with_reducible refine (cm _ HB3.out).mono ?_); clear cm k0 k1; rintro e W5 ⟨rfl, hb5⟩; have HB5 := Lib.hid (bel2 HB3.out hb5); clear hb5))
    | (go_at_call 9; ((with_reducible refine (caw _).mono ?_); clear caw; rintro e W4 ⟨rfl, hb4⟩; have HB4 := Lib.hid (bel2 HB5.out hb4); clear hb4))
    | fail)
  go_ret
  exact ⟨rfl, HB4.out⟩
set_option maxRecDepth 100000 in
set_option maxHeartbeats 12800000 in
theorem walk_yes (t0 : Int) (a0 : Option Addr) (cap0 : Nat) (N0 : List Nd) (w : World) (w0 : Ns w a0 cap0 N0) (s0 : Mid N0) (a1 : Int) (hL : Lgt N0) (s : Sh) (hT : Tr N0 s t0) :
    Calls Try.prog 6 #[.agg #[.int .i64 t0, .slice a0 N0.length cap0], .int .i64 a1] w fun e w' => e = .returned (.bool true) ∧ Below w.heap.size w w' := by
  have b1 : Below w.heap.size w (w.alloc (.cells #[.int .i64 t0, .slice a0 N0.length cap0] 24)) := al1 _
  have hs := hL.small
  have hl1 : N0.length ≤ 450 := hL.1
  have hP : PlO N0 t0 true (lay N0 s 0) := .inl ⟨s, hT, rfl, rfl⟩
  have hPl : (lay N0 s 0).length ≤ 10000000 := by have := (hP.small hs).1; omega
  have hvl : s.lvs.length ≤ N0.length := by have := lvs_len s; have := hT.all; omega
  have hvp := lvs_pos s
  obtain ⟨k, hk, hum⟩ := umod a1 (s.lvs.length : Int) (by omega) (by omega)
  have hkl : k < s.lvs.length := by omega
  obtain ⟨i, hi⟩ : ∃ i, s.lvs[k]? = some i := ⟨_, List.getElem?_eq_getElem hkl⟩
  have hAt : LfAt N0 t0 (i : Int) s i := ⟨hT, rfl, List.mem_of_getElem? hi⟩
  have cl := light_any t0 a0 cap0 N0 _ (w0.keep b1) s0 0 (fun _ => rfl) (fun h => absurd hL h)
  have cm := fun W (hb : Below w.heap.size w W) => tmay_any t0 a0 cap0 N0 W (w0.keep hb) hs true ⟨fun _ => ⟨s, hT⟩, fun _ => rfl⟩
  have cst := fun W (hb : Below w.heap.size w W) => rsametree_gen t0 t0 a0 a0 cap0 cap0 N0 N0 W (w0.keep hb) (w0.keep hb) true true _ _ hPl hPl (rp_any hs hP) (rp_any hs hP) true (by simp)
  have cv := fun W (hb : Below w.heap.size w W) => tleaves_yes t0 a0 cap0 N0 W (w0.keep hb) hs s hT
  have caw := fun W => awake_any W
  have S1 := Lib.hid (Sp.new w t0 a0 cap0 N0)
  have HI := Lib.hid hi
  have HND := Lib.hid hT.nd
  unfold LvIs at cv
  unfold trv at cl cm cst cv
  have hz : ((s.lvs.length : Int) == 0) = false := beq_eq_false_iff_ne.2 (by omega)
  cases hlf : isLf i s with
  | true =>
    have hn1 : s.lvs.length = 1 := by rw [isLf_of hlf]; rfl
    have hk0 : k = 0 := by omega
    subst hk0
    have cn := fun W (hb : Below w.heap.size w W) => next_any t0 a0 cap0 N0 (i : Int) W (w0.keep hb) hs none (.inr ⟨rfl, fun ⟨s', i', h1, h2⟩ => by
      obtain ⟨rfl, rfl⟩ := LfAt.uniq h1 hAt
      rw [hlf] at h2; cases h2⟩)
    unfold trv kI at cn
    simp only [Option.isSome_none] at cn
    rw [hn1] at cv hum hz
    have HN1 := Lib.hid hn1
    clear b1 w0 s0 hT hs hP hPl hL hi hAt hlf hkl hk hn1 hvl hvp
    go_enter Try.func6, Try.ntmps6
    go_upto_region 7 with (first
      | (go_at_call 8; ((with_reducible refine cl.mono ?_); clear cl; rintro e W3 ⟨rfl, hb3⟩; have S3 := Lib.hid (S1.out.keep hb3); have k0 := S3.out.g.at_ 0 _ rfl; have k1 := S3.out.g.at_ 1 _ rfl; clear hb3 S1))
      | (go_at_call 19; ((with_reducible refine (cm _ S3.out.b).mono ?_); clear cm k0 k1; rintro e W5 ⟨rfl, hb5⟩; have S5 := Lib.hid (S3.out.keep hb5); have k0 := S5.out.g.at_ 0 _ rfl; have k1 := S5.out.g.at_ 1 _ rfl; clear hb5 S3))
      | (go_at_call 26; ((with_reducible refine (cst _ S5.out.b).mono ?_); clear cst k0 k1; rintro e W6 ⟨rfl, hb6⟩; have S6 := Lib.hid (S5.out.keep hb6); have k0 := S6.out.g.at_ 0 _ rfl; have k1 := S6.out.g.at_ 1 _ rfl; clear hb6 S5))
      | (go_at_call 21; ((with_reducible refine (cv _ S6.out.b).mono ?_); clear cv k0 k1; rintro e W7 ⟨ao, c, rfl, hr7, hb7⟩; have HR7 := Lib.hid hr7; have S7 := Lib.hid (S6.out.keep hb7); clear hr7 hb7 S6))
      | fail)
    obtain ⟨b, o, rfl, c0⟩ := ri_at HR7.out HI.out
    have hrc := HR7.out.1
    have hrm := HR7.out.2.1
    unfold maxLen at hrm
    rw [preI_len] at hrc
    rw [HN1.out] at hrc
    refine wp_region_held_drew (S := (fun W => W.cell? ⟨w.heap.size, 0, none⟩ = some (.int .i64 t0) ∧ W.cell? ⟨w.heap.size, 1, none⟩ = some (.slice a0 N0.length cap0) ∧ W.cell? ⟨b, o, none⟩ = some (.int .i64 (i : Int)) ∧ Sp w t0 a0 cap0 N0 W)) (by kernel_rfl) (by first | exact Sp.conj S7.out c0 | exact Sp.conj (S7.out.keep (Below.refl _ _).drew) c0) (fun hHeld => ?_)
    refine wpAnyH_take (i := 0) (v := ?_) rfl (by kernel_rfl) (by kernel_rfl) (by kernel_rfl) (fun _ _ _ h => h) (Or.inl ⟨by rfl, ?_⟩) hHeld ?_
    rotate_left
    · (intro wS hSw; (try dsimp only at hSw); (try go_split_ands); go_simp; try with_reducible rfl)
    try simp only [List.getElem_toArray, List.getElem_cons_succ, List.getElem_cons_zero, Act.put, List.setIfInBounds_toArray, List.set_cons_zero, List.set_cons_succ]
    refine wpAnyH_take (i := 1) (v := ?_) rfl (by kernel_rfl) (by kernel_rfl) (by kernel_rfl) (fun _ _ _ h => h) (Or.inl ⟨by rfl, ?_⟩) hHeld ?_
    rotate_left
    · (intro wS hSw; (try dsimp only at hSw); (try go_split_ands); go_simp; try with_reducible rfl)
    try simp only [List.getElem_toArray, List.getElem_cons_succ, List.getElem_cons_zero, Act.put, List.setIfInBounds_toArray, List.set_cons_zero, List.set_cons_succ]
    refine wpAnyH_take (i := 2) (v := ?_) rfl (by kernel_rfl) (by kernel_rfl) (by kernel_rfl) (fun _ _ _ h => h) (Or.inl ⟨by rfl, ?_⟩) hHeld ?_
    rotate_left
    · (intro wS hSw; (try dsimp only at hSw); (try go_split_ands); go_simp; try with_reducible rfl)
    try simp only [List.getElem_toArray, List.getElem_cons_succ, List.getElem_cons_zero, Act.put, List.setIfInBounds_toArray, List.set_cons_zero, List.set_cons_succ]
    refine wpAnyH_take (i := 3) (v := ?_) rfl (by kernel_rfl) (by kernel_rfl) (by kernel_rfl) (fun _ _ _ h => h) (Or.inl ⟨by rfl, ?_⟩) hHeld ?_
    rotate_left
    · (intro wS hSw; (try dsimp only at hSw); (try go_split_ands); go_simp; try with_reducible rfl)
    try simp only [List.getElem_toArray, List.getElem_cons_succ, List.getElem_cons_zero, Act.put, List.setIfInBounds_toArray, List.set_cons_zero, List.set_cons_succ]
    refine wpAnyH_take (i := 4) (v := ?_) rfl (by kernel_rfl) (by kernel_rfl) (by kernel_rfl) (fun _ _ _ h => h) (Or.inl ⟨by rfl, ?_⟩) hHeld ?_
    rotate_left
    · (intro wS hSw; (try dsimp only at hSw); (try go_split_ands); go_simp; try with_reducible rfl)
    try simp only [List.getElem_toArray, List.getElem_cons_succ, List.getElem_cons_zero, Act.put, List.setIfInBounds_toArray, List.set_cons_zero, List.set_cons_succ]
    refine wpAnyH_ready (rs := [5]) (by kernel_rfl) (by simp) ?_
    refine AllReadyH.cons rfl (fun K hK => ?_) AllReadyH.nil
    go_simp
    (go_at_call 16; ((with_reducible refine (cn _ hHeld.2.2.2.b).mono ?_); rintro e X ⟨rfl, hbX⟩))
    refine hK.out _ _ ?_ (fun hNext => ?_)
    · exact Sp.conj (hHeld.2.2.2.keep hbX) (kc hbX hHeld.2.2.1)
    have HX := Lib.hid (hHeld.2.2.2.keep hbX)
    have HRX := Lib.hid (HR7.out.below ((Below.refl _ _).drew.trans hbX))
    clear hbX
    clear hK K hHeld
    have hHeld := hNext
    clear hNext
    try simp only [List.getElem_toArray, List.getElem_cons_succ, List.getElem_cons_zero, Act.put, List.setIfInBounds_toArray, List.set_cons_zero, List.set_cons_succ]
    refine wpAnyH_take (i := 6) (v := ?_) rfl (by kernel_rfl) (by kernel_rfl) (by kernel_rfl) (fun _ _ _ h => h) (Or.inl ⟨by rfl, ?_⟩) hHeld ?_
    rotate_left
    · (intro wS hSw; (try dsimp only at hSw); (try go_split_ands); go_simp; try with_reducible rfl)
    try simp only [List.getElem_toArray, List.getElem_cons_succ, List.getElem_cons_zero, Act.put, List.setIfInBounds_toArray, List.set_cons_zero, List.set_cons_succ]
    refine wpAnyH_take (i := 7) (v := ?_) rfl (by kernel_rfl) (by kernel_rfl) (by kernel_rfl) (fun _ _ _ h => h) (Or.inl ⟨by rfl, ?_⟩) hHeld ?_
    rotate_left
    · (intro wS hSw; (try dsimp only at hSw); (try go_split_ands); go_simp; try with_reducible rfl)
    try simp only [List.getElem_toArray, List.getElem_cons_succ, List.getElem_cons_zero, Act.put, List.setIfInBounds_toArray, List.set_cons_zero, List.set_cons_succ]
    refine wpAnyH_take (i := 8) (v := ?_) rfl (by kernel_rfl) (by kernel_rfl) (by kernel_rfl) (fun _ _ _ h => h) (Or.inl ⟨by rfl, ?_⟩) hHeld ?_
    rotate_left
    · (intro wS hSw; (try dsimp only at hSw); (try go_split_ands); go_simp; try with_reducible rfl)
    try simp only [List.getElem_toArray, List.getElem_cons_succ, List.getElem_cons_zero, Act.put, List.setIfInBounds_toArray, List.set_cons_zero, List.set_cons_succ]
    refine wpAnyH_take (i := 9) (v := ?_) rfl (by kernel_rfl) (by kernel_rfl) (by kernel_rfl) (fun _ _ _ h => h) (Or.inl ⟨by rfl, ?_⟩) hHeld ?_
    rotate_left
    · (intro wS hSw; (try dsimp only at hSw); (try go_split_ands); go_simp; try with_reducible rfl)
    try simp only [List.getElem_toArray, List.getElem_cons_succ, List.getElem_cons_zero, Act.put, List.setIfInBounds_toArray, List.set_cons_zero, List.set_cons_succ]
    refine wpAnyH_take (i := 10) (v := ?_) rfl (by kernel_rfl) (by kernel_rfl) (by kernel_rfl) (fun _ _ _ h => h) (Or.inl ⟨by rfl, ?_⟩) hHeld ?_
    rotate_left
    · (intro wS hSw; (try dsimp only at hSw); (try go_split_ands); go_simp; try with_reducible rfl)
    try simp only [List.getElem_toArray, List.getElem_cons_succ, List.getElem_cons_zero, Act.put, List.setIfInBounds_toArray, List.set_cons_zero, List.set_cons_succ]
    refine wpAnyH_done (by kernel_rfl) ?_ _
    clear hHeld
    go_wp2_with (go_at_call 9; ((with_reducible refine (caw _).mono ?_); clear caw; rintro e W9 ⟨rfl, hb9⟩; have HB9 := Lib.hid (bel2 HX.out.b hb9); clear hb9))
    go_ret
    exact ⟨rfl, HB9.out⟩
  | false =>
    obtain ⟨n, m, hn, -⟩ := nextA_is (List.mem_of_getElem? hi) hlf
    have hbs := beside_k hT.nd hi hlf hn
    have h1l := (lvs_one (List.mem_of_getElem? hi)).1 hlf
    have cn := fun W (hb : Below w.heap.size w W) => next_any t0 a0 cap0 N0 (i : Int) W (w0.keep hb) hs (some n) (.inl ⟨s, i, n, hAt, hlf, hn, rfl⟩)
    unfold trv kI at cn
    simp only [Option.isSome_some] at cn
    have h1i : (1 : Int) < (s.lvs.length : Int) := by omega
    have h1d : decide ((1 : Int) < (s.lvs.length : Int)) = true := decide_eq_true h1i
    have hk0 : (0 : Int) ≤ (k : Int) := by omega
    clear b1 w0 s0 hT hs hP hPl hL hi hAt hlf hvp
    go_enter Try.func6, Try.ntmps6
    go_upto_region 7 with (first
      | (go_at_call 8; ((with_reducible refine cl.mono ?_); clear cl; rintro e W3 ⟨rfl, hb3⟩; have S3 := Lib.hid (S1.out.keep hb3); have k0 := S3.out.g.at_ 0 _ rfl; have k1 := S3.out.g.at_ 1 _ rfl; clear hb3 S1))
      | (go_at_call 19; ((with_reducible refine (cm _ S3.out.b).mono ?_); clear cm k0 k1; rintro e W5 ⟨rfl, hb5⟩; have S5 := Lib.hid (S3.out.keep hb5); have k0 := S5.out.g.at_ 0 _ rfl; have k1 := S5.out.g.at_ 1 _ rfl; clear hb5 S3))
      | (go_at_call 26; ((with_reducible refine (cst _ S5.out.b).mono ?_); clear cst k0 k1; rintro e W6 ⟨rfl, hb6⟩; have S6 := Lib.hid (S5.out.keep hb6); have k0 := S6.out.g.at_ 0 _ rfl; have k1 := S6.out.g.at_ 1 _ rfl; clear hb6 S5))
      | (go_at_call 21; ((with_reducible refine (cv _ S6.out.b).mono ?_); clear cv k0 k1; rintro e W7 ⟨ao, c, rfl, hr7, hb7⟩; have HR7 := Lib.hid hr7; have S7 := Lib.hid (S6.out.keep hb7); clear hr7 hb7 S6))
      | fail)
    obtain ⟨b, o, rfl, c0⟩ := ri_at HR7.out HI.out
    have hrc := HR7.out.1
    have hrm := HR7.out.2.1
    unfold maxLen at hrm
    rw [preI_len] at hrc
    refine wp_region_held_drew (S := (fun W => W.cell? ⟨w.heap.size, 0, none⟩ = some (.int .i64 t0) ∧ W.cell? ⟨w.heap.size, 1, none⟩ = some (.slice a0 N0.length cap0) ∧ W.cell? ⟨b, o + k, none⟩ = some (.int .i64 (i : Int)) ∧ Sp w t0 a0 cap0 N0 W)) (by kernel_rfl) (by first | exact Sp.conj S7.out c0 | exact Sp.conj (S7.out.keep (Below.refl _ _).drew) c0) (fun hHeld => ?_)
    refine wpAnyH_take (i := 0) (v := ?_) rfl (by kernel_rfl) (by kernel_rfl) (by kernel_rfl) (fun _ _ _ h => h) (Or.inl ⟨by rfl, ?_⟩) hHeld ?_
    rotate_left
    · (intro wS hSw; (try dsimp only at hSw); (try go_split_ands); go_simp; try with_reducible rfl)
    try simp only [List.getElem_toArray, List.getElem_cons_succ, List.getElem_cons_zero, Act.put, List.setIfInBounds_toArray, List.set_cons_zero, List.set_cons_succ]
    refine wpAnyH_take (i := 1) (v := ?_) rfl (by kernel_rfl) (by kernel_rfl) (by kernel_rfl) (fun _ _ _ h => h) (Or.inl ⟨by rfl, ?_⟩) hHeld ?_
    rotate_left
    · (intro wS hSw; (try dsimp only at hSw); (try go_split_ands); go_simp; try with_reducible rfl)
    try simp only [List.getElem_toArray, List.getElem_cons_succ, List.getElem_cons_zero, Act.put, List.setIfInBounds_toArray, List.set_cons_zero, List.set_cons_succ]
    refine wpAnyH_take (i := 2) (v := ?_) rfl (by kernel_rfl) (by kernel_rfl) (by kernel_rfl) (fun _ _ _ h => h) (Or.inl ⟨by rfl, ?_⟩) hHeld ?_
    rotate_left
    · (intro wS hSw; (try dsimp only at hSw); (try go_split_ands); go_simp; try with_reducible rfl)
    try simp only [List.getElem_toArray, List.getElem_cons_succ, List.getElem_cons_zero, Act.put, List.setIfInBounds_toArray, List.set_cons_zero, List.set_cons_succ]
    refine wpAnyH_take (i := 3) (v := ?_) rfl (by kernel_rfl) (by kernel_rfl) (by kernel_rfl) (fun _ _ _ h => h) (Or.inl ⟨by rfl, ?_⟩) hHeld ?_
    rotate_left
    · (intro wS hSw; (try dsimp only at hSw); (try go_split_ands); go_simp; try with_reducible rfl)
    try simp only [List.getElem_toArray, List.getElem_cons_succ, List.getElem_cons_zero, Act.put, List.setIfInBounds_toArray, List.set_cons_zero, List.set_cons_succ]
    refine wpAnyH_take (i := 4) (v := ?_) rfl (by kernel_rfl) (by kernel_rfl) (by kernel_rfl) (fun _ _ _ h => h) (Or.inl ⟨by rfl, ?_⟩) hHeld ?_
    rotate_left
    · (intro wS hSw; (try dsimp only at hSw); (try go_split_ands); go_simp; try with_reducible rfl)
    try simp only [List.getElem_toArray, List.getElem_cons_succ, List.getElem_cons_zero, Act.put, List.setIfInBounds_toArray, List.set_cons_zero, List.set_cons_succ]
    refine wpAnyH_ready (rs := [5]) (by kernel_rfl) (by simp) ?_
    refine AllReadyH.cons rfl (fun K hK => ?_) AllReadyH.nil
    go_simp
    (go_at_call 16; ((with_reducible refine (cn _ hHeld.2.2.2.b).mono ?_); rintro e X ⟨rfl, hbX⟩))
    refine hK.out _ _ ?_ (fun hNext => ?_)
    · exact Sp.conj (hHeld.2.2.2.keep hbX) (kc hbX hHeld.2.2.1)
    have HX := Lib.hid (hHeld.2.2.2.keep hbX)
    have HRX := Lib.hid (HR7.out.below ((Below.refl _ _).drew.trans hbX))
    clear hbX
    clear hK K hHeld
    have hHeld := hNext
    clear hNext
    try simp only [List.getElem_toArray, List.getElem_cons_succ, List.getElem_cons_zero, Act.put, List.setIfInBounds_toArray, List.set_cons_zero, List.set_cons_succ]
    refine wpAnyH_take (i := 6) (v := ?_) rfl (by kernel_rfl) (by kernel_rfl) (by kernel_rfl) (fun _ _ _ h => h) (Or.inl ⟨by rfl, ?_⟩) hHeld ?_
    rotate_left
    · (intro wS hSw; (try dsimp only at hSw); (try go_split_ands); go_simp; try with_reducible rfl)
    try simp only [List.getElem_toArray, List.getElem_cons_succ, List.getElem_cons_zero, Act.put, List.setIfInBounds_toArray, List.set_cons_zero, List.set_cons_succ]
    refine wpAnyH_take (i := 7) (v := ?_) rfl (by kernel_rfl) (by kernel_rfl) (by kernel_rfl) (fun _ _ _ h => h) (Or.inl ⟨by rfl, ?_⟩) hHeld ?_
    rotate_left
    · (intro wS hSw; (try dsimp only at hSw); (try go_split_ands); go_simp; try with_reducible rfl)
    try simp only [List.getElem_toArray, List.getElem_cons_succ, List.getElem_cons_zero, Act.put, List.setIfInBounds_toArray, List.set_cons_zero, List.set_cons_succ]
    refine wpAnyH_take (i := 8) (v := ?_) rfl (by kernel_rfl) (by kernel_rfl) (by kernel_rfl) (fun _ _ _ h => h) (Or.inl ⟨by rfl, ?_⟩) hHeld ?_
    rotate_left
    · (intro wS hSw; (try dsimp only at hSw); (try go_split_ands); go_simp; try with_reducible rfl)
    try simp only [List.getElem_toArray, List.getElem_cons_succ, List.getElem_cons_zero, Act.put, List.setIfInBounds_toArray, List.set_cons_zero, List.set_cons_succ]
    refine wpAnyH_take (i := 9) (v := ?_) rfl (by kernel_rfl) (by kernel_rfl) (by kernel_rfl) (fun _ _ _ h => h) (Or.inl ⟨by rfl, ?_⟩) hHeld ?_
    rotate_left
    · (intro wS hSw; (try dsimp only at hSw); (try go_split_ands); go_simp; try with_reducible rfl)
    try simp only [List.getElem_toArray, List.getElem_cons_succ, List.getElem_cons_zero, Act.put, List.setIfInBounds_toArray, List.set_cons_zero, List.set_cons_succ]
    refine wpAnyH_take (i := 10) (v := ?_) rfl (by kernel_rfl) (by kernel_rfl) (by kernel_rfl) (fun _ _ _ h => h) (Or.inl ⟨by rfl, ?_⟩) hHeld ?_
    rotate_left
    · (intro wS hSw; (try dsimp only at hSw); (try go_split_ands); go_simp; try with_reducible rfl)
    try simp only [List.getElem_toArray, List.getElem_cons_succ, List.getElem_cons_zero, Act.put, List.setIfInBounds_toArray, List.set_cons_zero, List.set_cons_succ]
    refine wpAnyH_done (by kernel_rfl) ?_ _
    clear hHeld
    rcases hbs with hA | ⟨j, rfl, hB⟩
    · have hAl := (List.getElem?_eq_some_iff.1 hA).1
      obtain ⟨b2, o2, e2, cA⟩ := ri_at HRX.out hA
      cases e2
      have hw1 : wrap64 ((k : Int) + 1) = ((k + 1 : Nat) : Int) := by unfold wrap64; omega
      have hk1 : ((k + 1 : Nat) : Int) < (s.lvs.length : Int) := by omega
      rcases Nat.eq_zero_or_pos k with hk | hk
      · subst hk
        clear hA
        go_wp2_with (go_at_call 9; ((with_reducible refine (caw _).mono ?_); clear caw; rintro e W9 ⟨rfl, hb9⟩; have HB9 := Lib.hid (bel2 HX.out.b hb9); clear hb9))
        go_ret
        exact ⟨rfl, HB9.out⟩
      · obtain ⟨j, rfl⟩ : ∃ j, k = j + 1 := ⟨k - 1, by omega⟩
        obtain ⟨v, hv⟩ : ∃ v, s.lvs[j]? = some v := ⟨_, List.getElem?_eq_getElem (by omega)⟩
        obtain ⟨b2, o2, e2, cV⟩ := ri_at HRX.out hv
        cases e2
        have hne : ((n : Int) == (v : Int)) = false := by
          refine beq_eq_false_iff_ne.2 (fun e => ?_)
          have : n = v := by omega
          subst this
          have := nodup_at (lvs_nodup HND.out) hA hv
          omega
        have hw2 : wrap64 (((j + 1 : Nat) : Int) - 1) = (j : Int) := by unfold wrap64; omega
        have hj0 : (0 : Int) < ((j + 1 : Nat) : Int) := by omega
        clear hA hv
        go_wp2_with (go_at_call 9; ((with_reducible refine (caw _).mono ?_); clear caw; rintro e W9 ⟨rfl, hb9⟩; have HB9 := Lib.hid (bel2 HX.out.b hb9); clear hb9))
        go_ret
        exact ⟨rfl, HB9.out⟩
    · obtain ⟨b2, o2, e2, cB⟩ := ri_at HRX.out hB
      cases e2
      have hw2 : wrap64 (((j + 1 : Nat) : Int) - 1) = (j : Int) := by unfold wrap64; omega
      have hj0 : (0 : Int) < ((j + 1 : Nat) : Int) := by omega
      have hj1 : (j : Int) < (s.lvs.length : Int) := by omega
      clear hB
      go_wp2_with (go_at_call 9; ((with_reducible refine (caw _).mono ?_); clear caw; rintro e W9 ⟨rfl, hb9⟩; have HB9 := Lib.hid (bel2 HX.out.b hb9); clear hb9))
      go_ret
      exact ⟨rfl, HB9.out⟩

theorem walk (t0 : Int) (a0 : Option Addr) (cap0 : Nat) (N0 : List Nd) (a1 : Int) (w : World) (w0 : Ns w a0 cap0 N0) (s0 : Mid N0) (w1 : (Lit.int .i64 a1).wf = true) :
    Calls Try.prog 6 #[.agg #[.int .i64 t0, .slice a0 N0.length cap0], .int .i64 a1] w fun e w' => e = .returned (.bool true) ∧ Below w.heap.size w w' := by
  by_cases hL : Lgt N0
  · rcases Classical.em (∃ s, Tr N0 s t0) with ⟨s, hs⟩ | hs
    · exact walk_yes t0 a0 cap0 N0 w w0 s0 a1 hL s hs
    · exact walk_no t0 a0 cap0 N0 w w0 s0 a1 hL (fun s h => hs ⟨s, h⟩)
  · exact walk_big t0 a0 cap0 N0 w w0 s0 a1 hL

set_option maxRecDepth 100000 in
theorem lifted (os : Os) (started : os.Started) (H : Type) (enc : TypeId × Value → H) :
    ReturnsInHanded {} Try.checked os 6 .any (Rows.adaptNextSpec.pre6 enc Try.prog Try.f6 Rows.adaptNextRow.domain false) (Rows.adaptNextSpec.post enc Try.prog Try.f6 false true false false) := by
  refine returnsInHanded_of_change_sized (C := Try.checked) own started (by kernel_rfl) Try.func6
    (ChangeSpec.witness6 (enc := enc) (C := Try.checked) false ⟨#[], #[.agg #[.int .i64 0, .slice none 0 0], .int .i64 0], []⟩ 8 (by kernel_rfl) (by kernel_rfl) (by kernel_rfl) (by kernel_rfl)) ?_
  intro W base args ds gs before hval0 hW hcnd hsz _
  have hval : ∀ (j : Nat) t v, Try.f6.params[j]? = some t → args[j]? = some v → Value.okWide Try.prog W .any base t v := hval0
  have hW' := hW
  obtain ⟨p, q, hA0, hV, rfl, hfz, hnd⟩ := hW
  have hA : DataW.TrodAll enc Try.prog W 0 (fun _ => true) true Try.f6.params.toList args.toList ds p := hA0
  rw [Try.params6] at hA hval
  obtain ⟨v0, vs0, d0, ds0, p0, q0, hargs, rfl, rfl, h0, r0⟩ := trodAll_cons hA
  obtain ⟨v1, vs1, d1, ds1, p1, q1, rfl, rfl, rfl, h1, r1⟩ := trodAll_cons r0
  obtain ⟨rfl, rfl, rfl⟩ := trodAll_nil r1
  obtain rfl : args = #[v0, v1] := by cases args; simp_all
  obtain ⟨rfl, rfl⟩ := trodVars_none hV
  have k0 := h0
  have lt0 : ∀ x ∈ p0, x.block < W.heap.size := by obtain ⟨m, hm⟩ := k0; exact DataW.trod_lt m _ _ _ hm
  obtain ⟨u0, rfl, _⟩ := okWide_struct Try.underlying24 (hval 0 24 v0 rfl rfl)
  obtain ⟨t0_, a0, cap0, N0, e0, w0, s0⟩ := fields_tree (enc := enc) (w := W) (cs := u0.toList) (fuel := h0.choose) (by simpa [Value.cells] using h0.choose_spec) (fun n hn => by simpa using List.all_eq_true.1 hsz n (DataW.weights_mem_each (j := 0) rfl rfl n hn))
  obtain rfl : u0 = #[.int .i64 t0_, .slice a0 N0.length cap0] := by cases u0; simp_all
  have k1 := h1
  have lt1 : ∀ x ∈ p1, x.block < W.heap.size := by obtain ⟨m, hm⟩ := k1; exact DataW.trod_lt m _ _ _ hm
  obtain ⟨a1, rfl, rfl, rfl, w1⟩ := open_int Try.underlying3 (hval 1 3 v1 rfl rfl) h1
  clear hA0 hval0
  refine (walk t0_ a0 cap0 N0 a1 W w0 s0 w1).mono fun e W' ⟨he, bel⟩ => ?_
  subst he
  exact ⟨_, rfl, _, _, _, [], _, [], hW', trodAll_mk1 (shut_bool Try.underlying4 _), (trodAll_cons_mk (Below.trod laidOut (by kernel_rfl) (of_decide_eq_true (by kernel_rfl)) k0 bel lt0) (trodAll_cons_mk (Below.trod laidOut (by kernel_rfl) (of_decide_eq_true (by kernel_rfl)) k1 bel lt1) trodAll_mk0)), rfl, bel.frame _, fun h => by cases h⟩

theorem over : Rows.adaptNextRow.holds Try.pinned (OpenSpec.ofChange Rows.adaptNextSpec) :=
  OpenClaim.holds_of_wide 6 Try.f6 rfl rfl rfl rfl rfl rfl rfl ⟨rfl, rfl, rfl, rfl, rfl⟩ rfl rfl rfl rfl rfl (by kernel_rfl) Try.func6 (by kernel_rfl)
    (of_decide_eq_true (by kernel_rfl)) (by unfold Func.isWrapper; first | (rw [if_pos (by decide +kernel)]; kernel_rfl) | (rw [if_neg (by decide +kernel)]; exact ⟨rfl, rfl⟩))
    (fun os started H enc _ => lifted os started H enc)

theorem adaptNextHolds : Rows.AdaptNextSaid := over
#print axioms adaptNextHolds
end Go.Proofs.Yteebceecohhegaa.adaptNext
