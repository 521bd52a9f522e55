/- 'osierlaw4.LookForms' returns true for every argument. No condition. -/
import Derived.Test.YtiankcjmclpciaaRows
import Derived.Test.YtiankcjmclpciaaLkAwk
import Derived.Test.YtiankcjmclpciaaLk4
import Derived.Deep.QuietTactic
import Derived.BigQuiet
import Derived.Deep.RegionHeld3
import Derived.Deep.CutRange
import Derived.Deep.CutBlock
import Derived.LoopTactic
import Derived.WalkKit
import Derived.ProofKit
import Derived.OpenShut
import Derived.ChangeOld
import Derived.Below
namespace Go.Proofs.Ytiankcjmclpciaa.lookForms
open Go.ChangeShapes Go.WideShapes Go.ChangeAt Go.RowKit
set_option linter.all false

theorem own : ownKnob Try.prog.godebug = none := by kernel_rfl
theorem laidOut : laidOutB Try.prog = true := by kernel_rfl

attribute [local go_sem] undef
theorem hi_pos {l : List Pr} (h : 0 < l.length) : 1 ≤ hi l := by
  obtain ⟨i, hi'⟩ : ∃ i : Nat, topL l = i := ⟨(topL l).toNat, by have := topL_lt l; omega⟩
  rw [hi_at l i hi']; omega
theorem belowL_take {l : List Pr} {n : Nat} {q : Pr} (hq : l[n]? = some q) (k : Int) : belowL (l.take (n + 1)) k = belowL (l.take n) k + if q.1 < k then 1 else 0 := by
  obtain ⟨hn, e⟩ := List.getElem?_eq_some_iff.1 hq
  unfold belowL
  rw [List.take_succ_eq_append_getElem hn, List.filter_append, List.length_append, e]
  by_cases h2 : q.1 < k <;> simp [h2]
theorem f_keep {w1 W W' : World} {b c o p : Nat} {room st : Int} {L : List It} {s0 s1 : Int} (hb : Below W.heap.size W W')
    (hh : W.cell? ⟨b, 0, none⟩ = some (.int .i64 s0) ∧ W.cell? ⟨b, 1, none⟩ = some (.int .i64 s1) ∧ W.cell? ⟨c, o, none⟩ = some (.int .i64 s0) ∧ W.cell? ⟨c, o + 1, none⟩ = some (.int .i64 s1) ∧ Held w1 W p room st L) :
    W'.cell? ⟨b, 0, none⟩ = some (.int .i64 s0) ∧ W'.cell? ⟨b, 1, none⟩ = some (.int .i64 s1) ∧ W'.cell? ⟨c, o, none⟩ = some (.int .i64 s0) ∧ W'.cell? ⟨c, o + 1, none⟩ = some (.int .i64 s1) ∧ Held w1 W' p room st L := by
  obtain ⟨h0, h1, h2, h3, hH⟩ := hh
  have go : ∀ {q : Addr} {v : Value}, W.cell? q = some v → W'.cell? q = some v := fun hc => (hb.cell (World.block_lt_of_cell? W _ hc)).trans hc
  exact ⟨go h0, go h1, go h2, go h3, hH.below hb⟩
theorem f_held {w1 W : World} {b c o p : Nat} {room st : Int} {L : List It} {s0 s1 : Int}
    (hh : W.cell? ⟨b, 0, none⟩ = some (.int .i64 s0) ∧ W.cell? ⟨b, 1, none⟩ = some (.int .i64 s1) ∧ W.cell? ⟨c, o, none⟩ = some (.int .i64 s0) ∧ W.cell? ⟨c, o + 1, none⟩ = some (.int .i64 s1) ∧ Held w1 W p room st L) : Held w1 W p room st L := hh.2.2.2.2
theorem f_new {w1 W12 : World} {c o p : Nat} {room st : Int} {L : List It} {s0 s1 : Int} {a : Option Addr} {cap : Nat} {l : List Pr} {n : Nat} (hH : Held w1 W12 p room st L) (hP : Prs w1 a cap l) (hq : l[n]? = some (s0, s1)) (ha : a = some ⟨c, o, none⟩) :
    ∀ W, W = (W12.alloc (.cells #[.int .i64 s0, .int .i64 s1] 31)).drew → W.cell? ⟨W12.heap.size, 0, none⟩ = some (.int .i64 s0) ∧ W.cell? ⟨W12.heap.size, 1, none⟩ = some (.int .i64 s1) ∧ W.cell? ⟨c, o + n * 2, none⟩ = some (.int .i64 s0) ∧ W.cell? ⟨c, o + n * 2 + 1, none⟩ = some (.int .i64 s1) ∧ Held w1 W p room st L := by
  rintro W rfl
  have hh := (hH.alloc (.cells #[.int .i64 s0, .int .i64 s1] 31)).below ((Below.refl _ _).drew)
  obtain ⟨b, o', e, h0, h1⟩ := (hP.below hh.b).2.2 n _ hq
  rw [ha] at e
  cases e
  exact ⟨by simp, by simp, h0, h1, hh⟩

set_option maxRecDepth 100000 in
set_option maxHeartbeats 25600000 in
theorem walk (a0 : Option Addr) (cap0 : Nat) (z0 : List Pr) (a1 : Int) (a2 : Int) (w : World) (w0 : Prs w a0 cap0 z0) (r0 : Rng z0) (w1 : (Lit.int .i64 a1).wf = true) (w2 : (Lit.int .i64 a2).wf = true) :
    Calls Try.prog 3 #[.slice a0 z0.length cap0, .int .i64 a1, .int .i64 a2] w fun e w' => e = .returned (.bool true) ∧ Below w.heap.size w w' := by
  have cp : Calls Try.prog 9 #[.slice a0 z0.length cap0, .int .i64 60] w (PairsIs w 60) := pairs_srt a0 cap0 z0 60 w w0 r0 (by omega)
  have hc0 := w0.1
  have hc1 := w0.2.1
  clear w0 r0
  unfold maxLen at hc1
  go_enter Try.func3, Try.ntmps3
  go_wp2_with (first
    | (go_at_call 9; ((with_reducible refine cp.mono ?_); clear cp; rintro e W2 ⟨ao, c, l, rfl, hl, hs, hr, hP, hbw⟩; have hP1 := hP.1; have hP2 := hP.2.1; have HP := Lib.hid hP; have HS := Lib.hid hs; clear hP hs hr; unfold maxLen at hP2))
    | (go_at_call 10; ((with_reducible refine (new_held 100 100 W2 _ (Below.refl _ _) (by decide)).mono ?_); rintro e W3 ⟨p, rfl, h1⟩))
    | (go_at_call 11; ((with_reducible refine (laid_any W2 p _ _ _ ao c l _ [] (Nat.le_refl _) HP.out h1 Good.nil (by simp; omega) (by omega)).mono ?_); rintro e W4 ⟨t, L, rfl, h4, n4, t4, g4⟩; rw [List.nil_append] at h4 t4; have T4 := Lib.hid t4; clear t4 g4 h1 n4)))
  obtain ⟨v, is, hv, his⟩ : ∃ (v : Int) (is : Bool), ((findL l a1).map (·.2)).getD 0 = v ∧ (findL l a1).isSome = is := ⟨_, _, rfl, rfl⟩
  have HV := Lib.hid (And.intro hv his)
  clear hv his
  refine (tget h4 T4.out HS.out a1 v is HV.out.1 HV.out.2).mono ?_
  rintro e W5 ⟨rfl, hb5⟩
  have h5 := h4.below hb5
  clear hb5 h4
  go_wp2_with (fail)
  refine (find_any ao c l a1 _ (HP.out.below h5.b)).mono ?_
  rintro e W6 ⟨k, rfl, hk, hb6⟩
  have h6 := h5.below hb6
  clear hb6 h5
  have chi := fun W hP => high_any l.length ao c l W (Nat.le_refl _) hP (by omega)
  go_upto_region 8 with (fail)
  go_cut [7, 83] from 34 to 83 (fun s tb wx => s = .slice ao l.length c ∧ tb = .bool false ∧ Held W2 wx p 100 0 L)
  case first =>
    rcases hk with ⟨rfl, hf⟩ | ⟨j, q, rfl, hj, hjk, hf⟩
    · have hvi : v = 0 ∧ is = false := by
        have h := HV.out
        rw [hf] at h
        exact ⟨h.1.symm, h.2.symm⟩
      obtain ⟨rfl, rfl⟩ := hvi
      clear hf
      go_wp2_with (first
        | (go_at_call 14; have cc := tsize h6 T4.out l.length rfl; ((with_reducible refine cc.mono ?_); clear cc; rintro e W7 ⟨rfl, hb7⟩; have h7 := h6.below hb7; clear hb7))
        | (go_at_call 15; have cc := thigh h7 T4.out (hi l) rfl; ((with_reducible refine cc.mono ?_); clear cc; rintro e W8 ⟨rfl, hb8⟩; have h8 := h7.below hb8; clear hb8))
        | (go_at_call 16; ((with_reducible refine (chi _ (HP.out.below h8.b)).mono ?_); rintro e W9 ⟨rfl, hb9⟩; have h9 := h8.below hb9; clear hb9)))
      go_meet
      case rel => exact ⟨rfl, rfl, h9⟩
    · have hvi : v = q.2 ∧ is = true := by
        have h := HV.out
        rw [hf] at h
        exact ⟨h.1.symm, h.2.symm⟩
      obtain ⟨rfl, rfl⟩ := hvi
      obtain ⟨b, o, rfl, c0, c1⟩ := (HP.out.below h6.b).2.2 j q hj
      obtain ⟨x0, x1⟩ := q
      dsimp only at c0 c1
      have hjl := (List.getElem?_eq_some_iff.1 hj).1
      have hj0 : (0 : Int) ≤ (j : Int) := by omega
      have hjl' : (j : Int) < (l.length : Int) := by omega
      clear hf hj hjk
      go_wp2_with (first
        | (go_at_call 14; have cc := tsize h6 T4.out l.length rfl; ((with_reducible refine cc.mono ?_); clear cc; rintro e W7 ⟨rfl, hb7⟩; have h7 := h6.below hb7; clear hb7))
        | (go_at_call 15; have cc := thigh h7 T4.out (hi l) rfl; ((with_reducible refine cc.mono ?_); clear cc; rintro e W8 ⟨rfl, hb8⟩; have h8 := h7.below hb8; clear hb8))
        | (go_at_call 16; ((with_reducible refine (chi _ (HP.out.below h8.b)).mono ?_); rintro e W9 ⟨rfl, hb9⟩; have h9 := h8.below hb9; clear hb9)))
      go_meet
      case rel => exact ⟨rfl, rfl, h9⟩
  case rest =>
    obtain ⟨rfl, rfl, h9⟩ := hcut
    clear h6 chi hk HV
    obtain ⟨⟨q0, q1⟩, B, hq, hB⟩ : ∃ (q : Pr) (B : Bool), (l[0]?).getD (0, 0) = q ∧ (l[0]?).isSome = B := ⟨_, _, rfl, rfl⟩
    obtain ⟨⟨r0, r1⟩, B', hr, hB'⟩ : ∃ (q : Pr) (B : Bool), (l[l.length - 1]?).getD (0, 0) = q ∧ (l[l.length - 1]?).isSome = B := ⟨_, _, rfl, rfl⟩
    have HQ := Lib.hid (And.intro hq hB)
    have HR := Lib.hid (And.intro hr hB')
    clear hq hB hr hB'
    go_wp2_with (fail)
    refine (tmin h9 T4.out q0 q1 B HQ.out.1 HQ.out.2).mono ?_
    rintro e W10 ⟨rfl, hb10⟩
    have h10 := (h9.below hb10).alloc (.cells #[.int .i64 q0, .int .i64 q1] 31)
    have U10 := Lib.hid (Two.new W10 q0 q1 31)
    clear hb10 h9
    go_wp2_with (fail)
    refine (tmax h10 T4.out r0 r1 B' HR.out.1 HR.out.2).mono ?_
    rintro e W11 ⟨rfl, hb11⟩
    have h11 := (h10.below hb11).alloc (.cells #[.int .i64 r0, .int .i64 r1] 31)
    have U11 := Lib.hid (Two.new W11 r0 r1 31)
    have U10b := Lib.hid ((U10.out.keep hb11).past (.cells #[.int .i64 r0, .int .i64 r1] 31))
    clear hb11 h10 U10
    go_upto_region 12 with (fail)
    go_cut [7, 139] from 84 to 139 (fun s tb wx => s = .slice ao l.length c ∧ tb = .bool false ∧ Held W2 wx p 100 0 L)
    case first =>
      obtain ⟨u0, u1, _, _⟩ := U10b.out
      obtain ⟨v0, v1, _, _⟩ := U11.out
      by_cases hz : l.length = 0
      · obtain rfl := List.eq_nil_of_length_eq_zero hz
        obtain ⟨hq, hB⟩ := HQ.out
        obtain ⟨hr, hB'⟩ := HR.out
        cases hq
        cases hr
        subst hB
        subst hB'
        clear hz
        go_wp2_with (fail)
        go_quiet (fail)
        go_wp2_with (fail)
        go_meet
        case rel => exact ⟨rfl, rfl, h11.drewN nq⟩
      · have hN2 : 0 < l.length := by omega
        have hN1 : (0 : Int) < (l.length : Int) := by omega
        obtain ⟨x, hx⟩ : ∃ q, l[0]? = some q := ⟨_, List.getElem?_eq_getElem hN2⟩
        obtain ⟨y, hy⟩ : ∃ q, l[l.length - 1]? = some q := ⟨_, List.getElem?_eq_getElem (by omega)⟩
        obtain ⟨hq, hB⟩ := HQ.out
        obtain ⟨hr, hB'⟩ := HR.out
        rw [hx] at hq hB
        rw [hy] at hr hB'
        obtain rfl : x = (q0, q1) := hq
        obtain rfl : y = (r0, r1) := hr
        obtain rfl : true = B := hB
        obtain rfl : true = B' := hB'
        obtain ⟨bb, oo, hbo, f0, f1⟩ := (HP.out.below h11.b).2.2 0 (q0, q1) hx
        obtain ⟨bb', oo', hbo', g0, g1⟩ := (HP.out.below h11.b).2.2 (l.length - 1) (r0, r1) hy
        cases hbo
        cases hbo'
        dsimp only at f0 f1 g0 g1
        simp only [Nat.zero_mul, Nat.add_zero] at f0 f1
        have e1 : IntKind.i64.wrap ((l.length : Int) - 1) = (l.length : Int) - 1 := by rw [IntKind.wrap_i64]; omega
        have e2 : (0 : Int) ≤ (l.length : Int) - 1 := by omega
        have e3 : ((l.length : Int) - 1).toNat = l.length - 1 := by omega
        have e4 : (l.length : Int) - 1 < (l.length : Int) := by omega
        clear hx hy hz
        go_wp2_with (fail)
        go_quiet (fail)
        go_wp2_with (fail)
        go_meet
        case rel => exact ⟨rfl, rfl, h11.drewN nq⟩
    case rest =>
      obtain ⟨rfl, rfl, h12⟩ := hcut
      clear h11 U10b U11 HQ HR
      obtain ⟨⟨s0, s1⟩, C, hs, hC⟩ : ∃ (q : Pr) (B : Bool), (atL l a2).getD (0, 0) = q ∧ (atL l a2).isSome = B := ⟨_, _, rfl, rfl⟩
      have HSI := Lib.hid (And.intro hs hC)
      clear hs hC
      go_wp2_with (fail)
      refine (tnth h12 T4.out (by omega) a2 s0 s1 C HSI.out.1 HSI.out.2).mono ?_
      rintro e W12 ⟨rfl, hb12⟩
      have h13 := h12.below hb12
      have H12 := Lib.hid h13
      clear hb12 h12
      go_upto_region 15 with (fail)
      go_cut [7, 185] from 140 to 185 (fun s tb wx => s = .slice ao l.length c ∧ tb = .bool false ∧ Held W2 wx p 100 0 L)
      case first =>
        by_cases hin : 0 ≤ a2 ∧ a2 < (l.length : Int)
        · obtain ⟨hi0, hi1⟩ := hin
          obtain ⟨i, rfl⟩ : ∃ i : Nat, a2 = i := ⟨a2.toNat, by omega⟩
          obtain ⟨qi, hqi⟩ : ∃ q, l[i]? = some q := ⟨_, List.getElem?_eq_getElem (by omega)⟩
          have hati : atL l i = some qi := by unfold atL; rw [if_neg (by omega), Int.toNat_natCast, hqi]
          have hbi := belowL_here HS.out hqi
          obtain ⟨hs, hC⟩ := HSI.out
          rw [hati] at hs hC
          obtain rfl : qi = (s0, s1) := hs
          obtain rfl : true = C := hC
          dsimp only at hbi
          obtain ⟨bb, oo, hbo, _, _⟩ := (HP.out.below h13.b).2.2 i (s0, s1) hqi
          cases hbo
          have HQI := Lib.hid hqi
          have HBI := Lib.hid hbi
          clear hqi hbi hati h13
          have cb := fun W (hh : Held W2 W p 100 0 L) => tbelow hh T4.out HS.out (by omega) s0 i (by rw [HBI.out])
          go_wp2_with (fail)
          refine wp_region_held_drew (S := fun W => W.cell? ⟨W12.heap.size, 0, none⟩ = some (.int .i64 s0) ∧ W.cell? ⟨W12.heap.size, 1, none⟩ = some (.int .i64 s1) ∧ W.cell? ⟨bb, oo + i * 2, none⟩ = some (.int .i64 s0) ∧ W.cell? ⟨bb, oo + i * 2 + 1, none⟩ = some (.int .i64 s1) ∧ Held W2 W p 100 0 L) (by kernel_rfl) (f_new H12.out HP.out HQI.out rfl _ rfl) (fun hHeld => ?_)
          refine wpAnyH_take (i := 0) (v := ?_) rfl (by kernel_rfl) (by kernel_rfl) (by kernel_rfl) (fun _ _ _ h => h) (Or.inl ⟨by rfl, ?_⟩) hHeld ?_
          rotate_left
          · (intro wS hSw; (try dsimp only at hSw); (try go_split_ands); go_simp; try with_reducible rfl)
          try simp only [List.getElem_toArray, List.getElem_cons_succ, List.getElem_cons_zero, Act.put, List.setIfInBounds_toArray, List.set_cons_zero, List.set_cons_succ]
          refine wpAnyH_take (i := 1) (v := ?_) rfl (by kernel_rfl) (by kernel_rfl) (by kernel_rfl) (fun _ _ _ h => h) (Or.inl ⟨by rfl, ?_⟩) hHeld ?_
          rotate_left
          · (intro wS hSw; (try dsimp only at hSw); (try go_split_ands); go_simp; try with_reducible rfl)
          try simp only [List.getElem_toArray, List.getElem_cons_succ, List.getElem_cons_zero, Act.put, List.setIfInBounds_toArray, List.set_cons_zero, List.set_cons_succ]
          refine wpAnyH_take (i := 2) (v := ?_) rfl (by kernel_rfl) (by kernel_rfl) (by kernel_rfl) (fun _ _ _ h => h) (Or.inl ⟨by rfl, ?_⟩) hHeld ?_
          rotate_left
          · (intro wS hSw; (try dsimp only at hSw); (try go_split_ands); go_simp; try with_reducible rfl)
          try simp only [List.getElem_toArray, List.getElem_cons_succ, List.getElem_cons_zero, Act.put, List.setIfInBounds_toArray, List.set_cons_zero, List.set_cons_succ]
          refine wpAnyH_take (i := 3) (v := ?_) rfl (by kernel_rfl) (by kernel_rfl) (by kernel_rfl) (fun _ _ _ h => h) (Or.inl ⟨by rfl, ?_⟩) hHeld ?_
          rotate_left
          · (intro wS hSw; (try dsimp only at hSw); (try go_split_ands); go_simp; try with_reducible rfl)
          try simp only [List.getElem_toArray, List.getElem_cons_succ, List.getElem_cons_zero, Act.put, List.setIfInBounds_toArray, List.set_cons_zero, List.set_cons_succ]
          refine wpAnyH_take (i := 4) (v := ?_) rfl (by kernel_rfl) (by kernel_rfl) (by kernel_rfl) (fun _ _ _ h => h) (Or.inl ⟨by rfl, ?_⟩) hHeld ?_
          rotate_left
          · (intro wS hSw; (try dsimp only at hSw); (try go_split_ands); go_simp; try with_reducible rfl)
          try simp only [List.getElem_toArray, List.getElem_cons_succ, List.getElem_cons_zero, Act.put, List.setIfInBounds_toArray, List.set_cons_zero, List.set_cons_succ]
          refine wpAnyH_take (i := 5) (v := ?_) rfl (by kernel_rfl) (by kernel_rfl) (by kernel_rfl) (fun _ _ _ h => h) (Or.inl ⟨by rfl, ?_⟩) hHeld ?_
          rotate_left
          · (intro wS hSw; (try dsimp only at hSw); (try go_split_ands); go_simp; try with_reducible rfl)
          try simp only [List.getElem_toArray, List.getElem_cons_succ, List.getElem_cons_zero, Act.put, List.setIfInBounds_toArray, List.set_cons_zero, List.set_cons_succ]
          refine wpAnyH_take (i := 6) (v := ?_) rfl (by kernel_rfl) (by kernel_rfl) (by kernel_rfl) (fun _ _ _ h => h) (Or.inl ⟨by rfl, ?_⟩) hHeld ?_
          rotate_left
          · (intro wS hSw; (try dsimp only at hSw); (try go_split_ands); go_simp; try with_reducible rfl)
          try simp only [List.getElem_toArray, List.getElem_cons_succ, List.getElem_cons_zero, Act.put, List.setIfInBounds_toArray, List.set_cons_zero, List.set_cons_succ]
          refine wpAnyH_take (i := 7) (v := ?_) rfl (by kernel_rfl) (by kernel_rfl) (by kernel_rfl) (fun _ _ _ h => h) (Or.inl ⟨by rfl, ?_⟩) hHeld ?_
          rotate_left
          · (intro wS hSw; (try dsimp only at hSw); (try go_split_ands); go_simp; try with_reducible rfl)
          try simp only [List.getElem_toArray, List.getElem_cons_succ, List.getElem_cons_zero, Act.put, List.setIfInBounds_toArray, List.set_cons_zero, List.set_cons_succ]
          refine wpAnyH_take (i := 8) (v := ?_) rfl (by kernel_rfl) (by kernel_rfl) (by kernel_rfl) (fun _ _ _ h => h) (Or.inl ⟨by rfl, ?_⟩) hHeld ?_
          rotate_left
          · (intro wS hSw; (try dsimp only at hSw); (try go_split_ands); go_simp; try with_reducible rfl)
          try simp only [List.getElem_toArray, List.getElem_cons_succ, List.getElem_cons_zero, Act.put, List.setIfInBounds_toArray, List.set_cons_zero, List.set_cons_succ]
          refine wpAnyH_take (i := 9) (v := ?_) rfl (by kernel_rfl) (by kernel_rfl) (by kernel_rfl) (fun _ _ _ h => h) (Or.inl ⟨by rfl, ?_⟩) hHeld ?_
          rotate_left
          · (intro wS hSw; (try dsimp only at hSw); (try go_split_ands); go_simp; try with_reducible rfl)
          try simp only [List.getElem_toArray, List.getElem_cons_succ, List.getElem_cons_zero, Act.put, List.setIfInBounds_toArray, List.set_cons_zero, List.set_cons_succ]
          refine wpAnyH_take (i := 10) (v := ?_) rfl (by kernel_rfl) (by kernel_rfl) (by kernel_rfl) (fun _ _ _ h => h) (Or.inl ⟨by rfl, ?_⟩) hHeld ?_
          rotate_left
          · (intro wS hSw; (try dsimp only at hSw); (try go_split_ands); go_simp; try with_reducible rfl)
          try simp only [List.getElem_toArray, List.getElem_cons_succ, List.getElem_cons_zero, Act.put, List.setIfInBounds_toArray, List.set_cons_zero, List.set_cons_succ]
          refine wpAnyH_take (i := 11) (v := ?_) rfl (by kernel_rfl) (by kernel_rfl) (by kernel_rfl) (fun _ _ _ h => h) (Or.inl ⟨by rfl, ?_⟩) hHeld ?_
          rotate_left
          · (intro wS hSw; (try dsimp only at hSw); (try go_split_ands); go_simp; try with_reducible rfl)
          try simp only [List.getElem_toArray, List.getElem_cons_succ, List.getElem_cons_zero, Act.put, List.setIfInBounds_toArray, List.set_cons_zero, List.set_cons_succ]
          refine wpAnyH_take (i := 12) (v := ?_) rfl (by kernel_rfl) (by kernel_rfl) (by kernel_rfl) (fun _ _ _ h => h) (Or.inl ⟨by rfl, ?_⟩) hHeld ?_
          rotate_left
          · (intro wS hSw; (try dsimp only at hSw); (try go_split_ands); go_simp; try with_reducible rfl)
          try simp only [List.getElem_toArray, List.getElem_cons_succ, List.getElem_cons_zero, Act.put, List.setIfInBounds_toArray, List.set_cons_zero, List.set_cons_succ]
          refine wpAnyH_take (i := 13) (v := ?_) rfl (by kernel_rfl) (by kernel_rfl) (by kernel_rfl) (fun _ _ _ h => h) (Or.inl ⟨by rfl, ?_⟩) hHeld ?_
          rotate_left
          · (intro wS hSw; (try dsimp only at hSw); (try go_split_ands); go_simp; try with_reducible rfl)
          try simp only [List.getElem_toArray, List.getElem_cons_succ, List.getElem_cons_zero, Act.put, List.setIfInBounds_toArray, List.set_cons_zero, List.set_cons_succ]
          refine wpAnyH_take (i := 14) (v := ?_) rfl (by kernel_rfl) (by kernel_rfl) (by kernel_rfl) (fun _ _ _ h => h) (Or.inl ⟨by rfl, ?_⟩) hHeld ?_
          rotate_left
          · (intro wS hSw; (try dsimp only at hSw); (try go_split_ands); go_simp; try with_reducible rfl)
          try simp only [List.getElem_toArray, List.getElem_cons_succ, List.getElem_cons_zero, Act.put, List.setIfInBounds_toArray, List.set_cons_zero, List.set_cons_succ]
          refine wpAnyH_take (i := 15) (v := ?_) rfl (by kernel_rfl) (by kernel_rfl) (by kernel_rfl) (fun _ _ _ h => h) (Or.inl ⟨by rfl, ?_⟩) hHeld ?_
          rotate_left
          · (intro wS hSw; (try dsimp only at hSw); (try go_split_ands); go_simp; try with_reducible rfl)
          try simp only [List.getElem_toArray, List.getElem_cons_succ, List.getElem_cons_zero, Act.put, List.setIfInBounds_toArray, List.set_cons_zero, List.set_cons_succ]
          refine wpAnyH_take (i := 16) (v := ?_) rfl (by kernel_rfl) (by kernel_rfl) (by kernel_rfl) (fun _ _ _ h => h) (Or.inl ⟨by rfl, ?_⟩) hHeld ?_
          rotate_left
          · (intro wS hSw; (try dsimp only at hSw); (try go_split_ands); go_simp; try with_reducible rfl)
          try simp only [List.getElem_toArray, List.getElem_cons_succ, List.getElem_cons_zero, Act.put, List.setIfInBounds_toArray, List.set_cons_zero, List.set_cons_succ]
          refine wpAnyH_take (i := 17) (v := ?_) rfl (by kernel_rfl) (by kernel_rfl) (by kernel_rfl) (fun _ _ _ h => h) (Or.inl ⟨by rfl, ?_⟩) hHeld ?_
          rotate_left
          · (intro wS hSw; (try dsimp only at hSw); (try go_split_ands); go_simp; try with_reducible rfl)
          try simp only [List.getElem_toArray, List.getElem_cons_succ, List.getElem_cons_zero, Act.put, List.setIfInBounds_toArray, List.set_cons_zero, List.set_cons_succ]
          refine wpAnyH_take (i := 18) (v := ?_) rfl (by kernel_rfl) (by kernel_rfl) (by kernel_rfl) (fun _ _ _ h => h) (Or.inl ⟨by rfl, ?_⟩) hHeld ?_
          rotate_left
          · (intro wS hSw; (try dsimp only at hSw); (try go_split_ands); go_simp; try with_reducible rfl)
          try simp only [List.getElem_toArray, List.getElem_cons_succ, List.getElem_cons_zero, Act.put, List.setIfInBounds_toArray, List.set_cons_zero, List.set_cons_succ]
          refine wpAnyH_take (i := 19) (v := ?_) rfl (by kernel_rfl) (by kernel_rfl) (by kernel_rfl) (fun _ _ _ h => h) (Or.inl ⟨by rfl, ?_⟩) hHeld ?_
          rotate_left
          · (intro wS hSw; (try dsimp only at hSw); (try go_split_ands); go_simp; try with_reducible rfl)
          try simp only [List.getElem_toArray, List.getElem_cons_succ, List.getElem_cons_zero, Act.put, List.setIfInBounds_toArray, List.set_cons_zero, List.set_cons_succ]
          refine wpAnyH_take (i := 20) (v := ?_) rfl (by kernel_rfl) (by kernel_rfl) (by kernel_rfl) (fun _ _ _ h => h) (Or.inl ⟨by rfl, ?_⟩) hHeld ?_
          rotate_left
          · (intro wS hSw; (try dsimp only at hSw); (try go_split_ands); go_simp; try with_reducible rfl)
          try simp only [List.getElem_toArray, List.getElem_cons_succ, List.getElem_cons_zero, Act.put, List.setIfInBounds_toArray, List.set_cons_zero, List.set_cons_succ]
          refine wpAnyH_take (i := 21) (v := ?_) rfl (by kernel_rfl) (by kernel_rfl) (by kernel_rfl) (fun _ _ _ h => h) (Or.inl ⟨by rfl, ?_⟩) hHeld ?_
          rotate_left
          · (intro wS hSw; (try dsimp only at hSw); (try go_split_ands); go_simp; try with_reducible rfl)
          try simp only [List.getElem_toArray, List.getElem_cons_succ, List.getElem_cons_zero, Act.put, List.setIfInBounds_toArray, List.set_cons_zero, List.set_cons_succ]
          refine wpAnyH_take (i := 22) (v := ?_) rfl (by kernel_rfl) (by kernel_rfl) (by kernel_rfl) (fun _ _ _ h => h) (Or.inl ⟨by rfl, ?_⟩) hHeld ?_
          rotate_left
          · (intro wS hSw; (try dsimp only at hSw); (try go_split_ands); go_simp; try with_reducible rfl)
          try simp only [List.getElem_toArray, List.getElem_cons_succ, List.getElem_cons_zero, Act.put, List.setIfInBounds_toArray, List.set_cons_zero, List.set_cons_succ]
          refine wpAnyH_take (i := 23) (v := ?_) rfl (by kernel_rfl) (by kernel_rfl) (by kernel_rfl) (fun _ _ _ h => h) (Or.inl ⟨by rfl, ?_⟩) hHeld ?_
          rotate_left
          · (intro wS hSw; (try dsimp only at hSw); (try go_split_ands); go_simp; try with_reducible rfl)
          try simp only [List.getElem_toArray, List.getElem_cons_succ, List.getElem_cons_zero, Act.put, List.setIfInBounds_toArray, List.set_cons_zero, List.set_cons_succ]
          refine wpAnyH_take (i := 25) (v := ?_) rfl (by kernel_rfl) (by kernel_rfl) (by kernel_rfl) (fun _ _ _ h => h) (Or.inl ⟨by rfl, ?_⟩) hHeld ?_
          rotate_left
          · (intro wS hSw; (try dsimp only at hSw); (try go_split_ands); go_simp; try with_reducible rfl)
          try simp only [List.getElem_toArray, List.getElem_cons_succ, List.getElem_cons_zero, Act.put, List.setIfInBounds_toArray, List.set_cons_zero, List.set_cons_succ]
          refine wpAnyH_ready (rs := [24]) (by kernel_rfl) (by simp) ?_
          refine AllReadyH.cons rfl (fun K hK => ?_) AllReadyH.nil
          go_simp
          (go_at_call 20; ((with_reducible refine (cb _ (f_held hHeld)).mono ?_); rintro e W13 ⟨rfl, hb⟩))
          refine hK.out _ _ ?_ (fun hNext => ?_)
          · exact f_keep hb hHeld
          clear hK K hHeld
          have hHeld := hNext
          clear hNext
          try simp only [List.getElem_toArray, List.getElem_cons_succ, List.getElem_cons_zero, Act.put, List.setIfInBounds_toArray, List.set_cons_zero, List.set_cons_succ]
          refine wpAnyH_take (i := 26) (v := ?_) rfl (by kernel_rfl) (by kernel_rfl) (by kernel_rfl) (fun _ _ _ h => h) (Or.inl ⟨by rfl, ?_⟩) hHeld ?_
          rotate_left
          · (intro wS hSw; (try dsimp only at hSw); (try go_split_ands); go_simp; try with_reducible rfl)
          try simp only [List.getElem_toArray, List.getElem_cons_succ, List.getElem_cons_zero, Act.put, List.setIfInBounds_toArray, List.set_cons_zero, List.set_cons_succ]
          refine wpAnyH_take (i := 27) (v := ?_) rfl (by kernel_rfl) (by kernel_rfl) (by kernel_rfl) (fun _ _ _ h => h) (Or.inl ⟨by rfl, ?_⟩) hHeld ?_
          rotate_left
          · (intro wS hSw; (try dsimp only at hSw); (try go_split_ands); go_simp; try with_reducible rfl)
          try simp only [List.getElem_toArray, List.getElem_cons_succ, List.getElem_cons_zero, Act.put, List.setIfInBounds_toArray, List.set_cons_zero, List.set_cons_succ]
          refine wpAnyH_take (i := 28) (v := ?_) rfl (by kernel_rfl) (by kernel_rfl) (by kernel_rfl) (fun _ _ _ h => h) (Or.inl ⟨by rfl, ?_⟩) hHeld ?_
          rotate_left
          · (intro wS hSw; (try dsimp only at hSw); (try go_split_ands); go_simp; try with_reducible rfl)
          try simp only [List.getElem_toArray, List.getElem_cons_succ, List.getElem_cons_zero, Act.put, List.setIfInBounds_toArray, List.set_cons_zero, List.set_cons_succ]
          refine wpAnyH_take (i := 29) (v := ?_) rfl (by kernel_rfl) (by kernel_rfl) (by kernel_rfl) (fun _ _ _ h => h) (Or.inl ⟨by rfl, ?_⟩) hHeld ?_
          rotate_left
          · (intro wS hSw; (try dsimp only at hSw); (try go_split_ands); go_simp; try with_reducible rfl)
          try simp only [List.getElem_toArray, List.getElem_cons_succ, List.getElem_cons_zero, Act.put, List.setIfInBounds_toArray, List.set_cons_zero, List.set_cons_succ]
          refine wpAnyH_take (i := 30) (v := ?_) rfl (by kernel_rfl) (by kernel_rfl) (by kernel_rfl) (fun _ _ _ h => h) (Or.inl ⟨by rfl, ?_⟩) hHeld ?_
          rotate_left
          · (intro wS hSw; (try dsimp only at hSw); (try go_split_ands); go_simp; try with_reducible rfl)
          try simp only [List.getElem_toArray, List.getElem_cons_succ, List.getElem_cons_zero, Act.put, List.setIfInBounds_toArray, List.set_cons_zero, List.set_cons_succ]
          refine wpAnyH_take (i := 31) (v := ?_) rfl (by kernel_rfl) (by kernel_rfl) (by kernel_rfl) (fun _ _ _ h => h) (Or.inl ⟨by rfl, ?_⟩) hHeld ?_
          rotate_left
          · (intro wS hSw; (try dsimp only at hSw); (try go_split_ands); go_simp; try with_reducible rfl)
          try simp only [List.getElem_toArray, List.getElem_cons_succ, List.getElem_cons_zero, Act.put, List.setIfInBounds_toArray, List.set_cons_zero, List.set_cons_succ]
          refine wpAnyH_take (i := 32) (v := ?_) rfl (by kernel_rfl) (by kernel_rfl) (by kernel_rfl) (fun _ _ _ h => h) (Or.inl ⟨by rfl, ?_⟩) hHeld ?_
          rotate_left
          · (intro wS hSw; (try dsimp only at hSw); (try go_split_ands); go_simp; try with_reducible rfl)
          try simp only [List.getElem_toArray, List.getElem_cons_succ, List.getElem_cons_zero, Act.put, List.setIfInBounds_toArray, List.set_cons_zero, List.set_cons_succ]
          refine wpAnyH_take (i := 33) (v := ?_) rfl (by kernel_rfl) (by kernel_rfl) (by kernel_rfl) (fun _ _ _ h => h) (Or.inl ⟨by rfl, ?_⟩) hHeld ?_
          rotate_left
          · (intro wS hSw; (try dsimp only at hSw); (try go_split_ands); go_simp; try with_reducible rfl)
          try simp only [List.getElem_toArray, List.getElem_cons_succ, List.getElem_cons_zero, Act.put, List.setIfInBounds_toArray, List.set_cons_zero, List.set_cons_succ]
          refine wpAnyH_take (i := 34) (v := undef) rfl (by kernel_rfl) (by kernel_rfl) (by kernel_rfl) (fun _ _ _ h => h) (Or.inr ⟨by rfl, rfl⟩) hHeld ?_
          try simp only [List.getElem_toArray, List.getElem_cons_succ, List.getElem_cons_zero, Act.put, List.setIfInBounds_toArray, List.set_cons_zero, List.set_cons_succ]
          refine wpAnyH_take (i := 35) (v := undef) rfl (by kernel_rfl) (by kernel_rfl) (by kernel_rfl) (fun _ _ _ h => h) (Or.inr ⟨by rfl, rfl⟩) hHeld ?_
          try simp only [List.getElem_toArray, List.getElem_cons_succ, List.getElem_cons_zero, Act.put, List.setIfInBounds_toArray, List.set_cons_zero, List.set_cons_succ]
          refine wpAnyH_take (i := 36) (v := undef) rfl (by kernel_rfl) (by kernel_rfl) (by kernel_rfl) (fun _ _ _ h => h) (Or.inr ⟨by rfl, rfl⟩) hHeld ?_
          try simp only [List.getElem_toArray, List.getElem_cons_succ, List.getElem_cons_zero, Act.put, List.setIfInBounds_toArray, List.set_cons_zero, List.set_cons_succ]
          refine wpAnyH_take (i := 37) (v := ?_) rfl (by kernel_rfl) (by kernel_rfl) (by kernel_rfl) (fun _ _ _ h => h) (Or.inl ⟨by rfl, ?_⟩) hHeld ?_
          rotate_left
          · (intro wS hSw; (try dsimp only at hSw); (try go_split_ands); go_simp; try with_reducible rfl)
          try simp only [List.getElem_toArray, List.getElem_cons_succ, List.getElem_cons_zero, Act.put, List.setIfInBounds_toArray, List.set_cons_zero, List.set_cons_succ]
          refine wpAnyH_take (i := 38) (v := ?_) rfl (by kernel_rfl) (by kernel_rfl) (by kernel_rfl) (fun _ _ _ h => h) (Or.inl ⟨by rfl, ?_⟩) hHeld ?_
          rotate_left
          · (intro wS hSw; (try dsimp only at hSw); (try go_split_ands); go_simp; try with_reducible rfl)
          try simp only [List.getElem_toArray, List.getElem_cons_succ, List.getElem_cons_zero, Act.put, List.setIfInBounds_toArray, List.set_cons_zero, List.set_cons_succ]
          refine wpAnyH_done (by kernel_rfl) ?_ _
          go_wp2_with (fail)
          go_meet
          case rel => exact ⟨rfl, rfl, f_held hHeld⟩
        · have hnone : atL l a2 = none := by
            unfold atL
            by_cases h : a2 < 0
            · rw [if_pos h]
            · rw [if_neg h]; exact List.getElem?_eq_none (by omega)
          obtain ⟨hs, hC⟩ := HSI.out
          rw [hnone] at hs hC
          cases hs
          subst hC
          clear hnone
          have h14 := h13.alloc (.cells #[.int .i64 0, .int .i64 0] 31)
          by_cases hn : a2 < 0
          · have hn1 : decide ((0 : Int) ≤ a2) = false := by simp; omega
            have hn2 : ¬ (0 : Int) ≤ a2 := by omega
            clear hin
            go_wp2_with (fail)
            go_quiet (fail)
            go_wp2_with (fail)
            go_meet
            case rel => exact ⟨rfl, rfl, h14.drewN nq⟩
          · have hn1 : decide (a2 < (l.length : Int)) = false := by simp; omega
            have hn2 : (0 : Int) ≤ a2 := by omega
            have hn3 : ¬ a2 < (l.length : Int) := by omega
            clear hin
            go_wp2_with (fail)
            go_quiet (fail)
            go_wp2_with (fail)
            go_meet
            case rel => exact ⟨rfl, rfl, h14.drewN nq⟩
      case rest =>
        obtain ⟨rfl, rfl, h15⟩ := hcut
        clear h13 H12 HSI
        go_wp2_with (fail)
        go_loopw [20, 188] (fun m i wr => ∃ n : Nat, n ≤ l.length ∧ i = .int .i64 n ∧ m = .int .i64 (belowL (l.take n) a1 : Nat) ∧ Held W2 wr p 100 0 L) (fun _ i _ => l.length - (intOf i).toNat)
        case atStart => exact ⟨0, Nat.zero_le _, rfl, rfl, h15⟩
        case round =>
          clear h15
          obtain ⟨n, hn, rfl, rfl, hH⟩ := hrel
          have HH := Lib.hid hH
          have hble := belowL_le (l.take n) a1
          rw [List.length_take] at hble
          clear hH
          by_cases hlt : n < l.length
          · obtain ⟨q, hq⟩ : ∃ q, l[n]? = some q := ⟨_, List.getElem?_eq_getElem hlt⟩
            obtain ⟨b, o, rfl, c0, c1⟩ := (HP.out.below HH.out.b).2.2 n q hq
            have hsu := belowL_take hq a1
            obtain ⟨x0, x1⟩ := q
            dsimp only at c0 c1 hsu
            have h5 := HH.out.alloc (.cells #[.int .i64 x0, .int .i64 x1] 31)
            obtain ⟨m, hm⟩ : ∃ m, belowL (l.take n) a1 = m := ⟨_, rfl⟩
            rw [hm] at hsu hble
            rw [hm]
            clear hq hm
            by_cases g2 : x0 < a1
            · rw [if_pos g2] at hsu
              have HSU := Lib.hid hsu
              clear hsu
              go_wp2_with (fail)
              go_roundw
              case rel => exact ⟨n + 1, by omega, by go_num, by rw [HSU.out]; go_num, h5⟩
              case measure => simp [intOf]; omega
            · rw [if_neg g2] at hsu
              have HSU := Lib.hid hsu
              clear hsu
              go_wp2_with (fail)
              go_roundw
              case rel => exact ⟨n + 1, by omega, by go_num, by rw [HSU.out]; go_num, h5⟩
              case measure => simp [intOf]; omega
          · obtain rfl : n = l.length := by omega
            rw [List.take_of_length_le (Nat.le_refl _)]
            obtain ⟨m, hm⟩ : ∃ m, belowL l a1 = m := ⟨_, rfl⟩
            rw [hm]
            have HM := Lib.hid hm
            clear hm
            go_wp2_with (first
              | (go_at_call 20; have cc := tbelow HH.out T4.out HS.out (by omega) a1 m (by rw [HM.out]); ((with_reducible refine cc.mono ?_); clear cc; rintro e W16 ⟨rfl, hb16⟩; have h16 := HH.out.below hb16; clear hb16))
              | (go_at_call 21; ((with_reducible refine (lawake_any _).mono ?_); rintro e W17 ⟨rfl, hb17⟩; have h17 := h16.below hb17; clear hb17)))
            go_ret
            exact ⟨rfl, hbw.trans (h17.b.mono hbw.size)⟩

set_option maxRecDepth 100000 in
theorem lifted (os : Os) (started : os.Started) (H : Type) (enc : TypeId × Value → H) :
    ReturnsInHanded {} Try.checked os 3 .any (Rows.lookFormsSpec.pre6 enc Try.prog Try.f3 Rows.lookFormsRow.domain false) (Rows.lookFormsSpec.post enc Try.prog Try.f3 false true false false) := by
  refine returnsInHanded_of_change (C := Try.checked) own started (by kernel_rfl) Try.func3
    (ChangeSpec.witness6 (enc := enc) (C := Try.checked) false ⟨#[], #[.slice none 0 0, .int .i64 0, .int .i64 0], []⟩ 8 (by kernel_rfl) (by kernel_rfl) (by kernel_rfl) (by kernel_rfl)) ?_
  intro W base args ds gs before hval0 hW hcnd _
  have hval : ∀ (j : Nat) t v, Try.f3.params[j]? = some t → args[j]? = some v → Value.okWide Try.prog W .any base t v := hval0
  have hW' := hW
  obtain ⟨p, q, hA0, hV, rfl, hfz, hnd⟩ := hW
  have hA : DataW.TrodAll enc Try.prog W 0 (fun _ => true) true Try.f3.params.toList args.toList ds p := hA0
  rw [Try.params3] at hA hval
  obtain ⟨v0, vs0, d0, ds0, p0, q0, hargs, rfl, rfl, h0, r0⟩ := trodAll_cons hA
  obtain ⟨v1, vs1, d1, ds1, p1, q1, rfl, rfl, rfl, h1, r1⟩ := trodAll_cons r0
  obtain ⟨v2, vs2, d2, ds2, p2, q2, rfl, rfl, rfl, h2, r2⟩ := trodAll_cons r1
  obtain ⟨rfl, rfl, rfl⟩ := trodAll_nil r2
  obtain rfl : args = #[v0, v1, v2] := by cases args; simp_all
  obtain ⟨rfl, rfl⟩ := trodVars_none hV
  have k0 := h0
  have lt0 : ∀ x ∈ p0, x.block < W.heap.size := by obtain ⟨m, hm⟩ := k0; exact DataW.trod_lt m _ _ _ hm
  obtain ⟨b0, l0, c0, rfl⟩ := okWide_slice Try.underlying22 (hval 0 22 v0 rfl rfl)
  obtain ⟨a0, cap0, z0, e0, w0, g0⟩ := open_pairsw (enc := enc) (w := W) (v := .slice b0 l0 c0) (fuel := h0.choose) (by simpa [Value.cells] using h0.choose_spec)
  rw [e0] at hval k0 h0 hW' hval0 hA0
  have k1 := h1
  have lt1 : ∀ x ∈ p1, x.block < W.heap.size := by obtain ⟨m, hm⟩ := k1; exact DataW.trod_lt m _ _ _ hm
  obtain ⟨a1, rfl, rfl, rfl, w1⟩ := open_int Try.underlying3 (hval 1 3 v1 rfl rfl) h1
  have k2 := h2
  have lt2 : ∀ x ∈ p2, x.block < W.heap.size := by obtain ⟨m, hm⟩ := k2; exact DataW.trod_lt m _ _ _ hm
  obtain ⟨a2, rfl, rfl, rfl, w2⟩ := open_int Try.underlying3 (hval 2 3 v2 rfl rfl) h2
  clear hA0 hval0
  rw [e0]; refine (walk a0 cap0 z0 a1 a2 W w0 g0 w1 w2).mono fun e W' ⟨he, bel⟩ => ?_
  subst he
  exact ⟨_, rfl, _, _, _, [], _, [], hW', trodAll_mk1 (shut_bool Try.underlying4 _), (trodAll_cons_mk (Below.trod laidOut (by kernel_rfl) (of_decide_eq_true (by kernel_rfl)) k0 bel lt0) (trodAll_cons_mk (Below.trod laidOut (by kernel_rfl) (of_decide_eq_true (by kernel_rfl)) k1 bel lt1) (trodAll_cons_mk (Below.trod laidOut (by kernel_rfl) (of_decide_eq_true (by kernel_rfl)) k2 bel lt2) trodAll_mk0))), rfl, bel.frame _, fun h => by cases h⟩

theorem over : Rows.lookFormsRow.holds Try.pinned (OpenSpec.ofChange Rows.lookFormsSpec) :=
  OpenClaim.holds_of_wide 3 Try.f3 rfl rfl rfl rfl rfl rfl rfl ⟨rfl, rfl, rfl, rfl, rfl⟩ rfl rfl rfl rfl rfl (by kernel_rfl) Try.func3 (by kernel_rfl)
    (of_decide_eq_true (by kernel_rfl)) (by unfold Func.isWrapper; first | (rw [if_pos (by decide +kernel)]; kernel_rfl) | (rw [if_neg (by decide +kernel)]; exact ⟨rfl, rfl⟩))
    (fun os started H enc _ => lifted os started H enc)

theorem lookFormsHolds : Rows.LookFormsSaid := over
#print axioms lookFormsHolds
end Go.Proofs.Ytiankcjmclpciaa.lookForms
