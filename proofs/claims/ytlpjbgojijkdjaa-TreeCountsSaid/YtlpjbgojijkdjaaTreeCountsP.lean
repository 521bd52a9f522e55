/- TreeCounts (P14.1): of a tree of at most 450 nodes and 2000 pairs that may be and is the same as itself: leaves are one more than routes, a path from the Key of a route is never at the top alone, All tells as many pairs as lie in the nodes, and they rise. No condition but that of the form. -/
import Derived.Test.YtlpjbgojijkdjaaRows
import Derived.Test.YtlpjbgojijkdjaaTsF
import Derived.Test.YtlpjbgojijkdjaaTrY
import Derived.LoopTactic
import Derived.WalkKit
import Derived.ProofKit
import Derived.OpenShut
import Derived.ChangeOld
import Derived.Below
namespace Go.Proofs.Ytlpjbgojijkdjaa.treeCounts
open Go.ChangeShapes Go.WideShapes Go.ChangeAt Go.RowKit
set_option linter.all false

theorem own : ownKnob Try.prog.godebug = none := by kernel_rfl
theorem laidOut : laidOutB Try.prog = true := by kernel_rfl

/-- So many routes among the first n nodes. -/
def rcnt (N : List Nd) (n : Nat) : Nat := ((N.take n).filter (fun z => z.r)).length
theorem rcnt_succ {N : List Nd} {n : Nat} {x : Nd} (hx : N[n]? = some x) : rcnt N (n + 1) = rcnt N n + (if x.r = true then 1 else 0) := by
  unfold rcnt
  rw [List.take_add_one, hx, List.filter_append, List.length_append]
  cases h : x.r <;> simp [List.filter, h]
theorem rcnt_le (N : List Nd) (n : Nat) : rcnt N n ≤ n := by
  unfold rcnt
  exact Nat.le_trans (List.length_filter_le _ _) (by rw [List.length_take]; omega)
theorem psum_mono {N : List Nd} (n : Nat) : psum N n ≤ psum N N.length := by
  have h : psum N n + ((N.drop n).map (fun z => z.p.length)).sum = psum N N.length := by
    unfold psum
    rw [← List.sum_append, ← List.map_append, List.take_append_drop, List.take_length]
  omega
theorem rcnt_sum {N : List Nd} : ∀ n, n ≤ N.length → (rcnt N n : Int) = sumZ (fun i => if (nd N i).r = true then 1 else 0) (List.range n) := by
  intro n
  induction n with
  | zero => intro _; simp [rcnt, sumZ]
  | succ n ih =>
    intro h
    rw [sumZ_range, ← ih (by omega), rcnt_succ (nd_get (by omega : n < N.length))]
    split <;> simp
theorem psum_sum {N : List Nd} : ∀ n, n ≤ N.length → (psum N n : Int) = sumZ (fun i => ((nd N i).p.length : Int)) (List.range n) := by
  intro n
  induction n with
  | zero => intro _; simp [psum, sumZ]
  | succ n ih =>
    intro h
    rw [sumZ_range, ← ih (by omega), psum_succ (nd_get (by omega : n < N.length))]
    simp
theorem tr_counts {N : List Nd} {s : Sh} {t : Int} (h : Tr N s t) : s.lvs.length = rcnt N N.length + 1 ∧ (allP N s.lvs).length = psum N N.length := by
  have h1 := lvs_routes h.hg
  have h2 := allP_sum h.hg
  rw [sumZ_perm _ h.perm, ← rcnt_sum _ (Nat.le_refl _)] at h1
  rw [sumZ_perm _ h.perm, ← psum_sum _ (Nat.le_refl _)] at h2
  omega
theorem dn_route {N : List Nd} {s : Sh} {t : Int} (h : Tr N s t) {n : Nat} {x : Nd} (hn : N[n]? = some x) (hr : x.r = true) (k : Int) : 0 < (dn N k s).u.length := by
  have hm := h.mem (List.getElem?_eq_some_iff.1 hn).1
  have hg := h.hg
  cases s with
  | lf i =>
    simp [Sh.pre] at hm
    subst hm
    obtain ⟨_, m, hm, hmr, _⟩ := hg
    rw [hn] at hm
    cases hm
    rw [hr] at hmr
    cases hmr
  | rt i l r => simp only [dn]; split <;> simp
theorem w_one {R : Nat} (h : R ≤ 450) : wrap64 ((R : Int) + 1) = ((R + 1 : Nat) : Int) := by unfold wrap64; omega
theorem w_two {R S : Nat} (h : R ≤ 2000) (h2 : S ≤ 2000) : wrap64 ((R : Int) + (S : Int)) = ((R + S : Nat) : Int) := by unfold wrap64; omega
set_option maxRecDepth 100000 in
set_option maxHeartbeats 6400000 in
theorem walk_big (t0 : Int) (a0 : Option Addr) (cap0 : Nat) (N0 : List Nd) (w : World) (w0 : Ns w a0 cap0 N0) (s0 : Mid N0) (hL : ¬ Lgt N0) :
    Calls Try.prog 6 #[.agg #[.int .i64 t0, .slice a0 N0.length cap0]] w fun e w' => e = .returned (.bool true) ∧ Below w.heap.size w w' := by
  have b1 : Below w.heap.size w (w.alloc (.cells #[.int .i64 t0, .slice a0 N0.length cap0] 24)) := al1 _
  have cl := light_any t0 a0 cap0 N0 _ (w0.keep b1) s0 1 (fun h => absurd h hL) (fun _ => rfl)
  have caw := fun W => awake_any W
  have HB := Lib.hid b1
  unfold trv at cl
  clear b1 w0 s0 hL
  go_enter Try.func6, Try.ntmps6
  go_wp2_with (first
    | (go_at_call 9; ((with_reducible refine cl.mono ?_); clear cl; rintro e W3 ⟨rfl, hb3⟩; have HB3 := Lib.hid (bel2 HB.out hb3); clear hb3))
    | (go_at_call 10; ((with_reducible refine (caw _).mono ?_); clear caw; rintro e W4 ⟨rfl, hb4⟩; have HB4 := Lib.hid (bel2 HB3.out hb4); clear hb4))
    | fail)
  go_ret
  exact ⟨rfl, HB4.out⟩
set_option maxRecDepth 100000 in
set_option maxHeartbeats 6400000 in
theorem walk_no (t0 : Int) (a0 : Option Addr) (cap0 : Nat) (N0 : List Nd) (w : World) (w0 : Ns w a0 cap0 N0) (s0 : Mid N0) (hL : Lgt N0) (hT : ∀ s, ¬ Tr N0 s t0) :
    Calls Try.prog 6 #[.agg #[.int .i64 t0, .slice a0 N0.length cap0]] w fun e w' => e = .returned (.bool true) ∧ Below w.heap.size w w' := by
  have b1 : Below w.heap.size w (w.alloc (.cells #[.int .i64 t0, .slice a0 N0.length cap0] 24)) := al1 _
  have cl := light_any t0 a0 cap0 N0 _ (w0.keep b1) s0 0 (fun _ => rfl) (fun h => absurd hL h)
  have cm := fun W (hb : Below w.heap.size w W) => tmay_any t0 a0 cap0 N0 W (w0.keep hb) hL.small false ⟨fun h => (by cases h), fun ⟨s, hs⟩ => absurd hs (hT s)⟩
  have caw := fun W => awake_any W
  have HB := Lib.hid b1
  have G1 := Lib.hid (Bk.new w #[.int .i64 t0, .slice a0 N0.length cap0] 24)
  unfold trv at cl cm
  clear b1 w0 s0 hL hT
  go_enter Try.func6, Try.ntmps6
  go_wp2_with (first
    | (go_at_call 9; ((with_reducible refine cl.mono ?_); clear cl; rintro e W3 ⟨rfl, hb3⟩; have HB3 := Lib.hid (bel2 HB.out hb3); have k0 := (G1.out.keep hb3).at_ 0 _ rfl; have k1 := (G1.out.keep hb3).at_ 1 _ rfl; clear hb3))
    | (go_at_call 16; ((with_reducible refine (cm _ HB3.out).mono ?_); clear cm k0 k1; rintro e W5 ⟨rfl, hb5⟩; have HB5 := Lib.hid (bel2 HB3.out hb5); clear hb5))
    | (go_at_call 10; ((with_reducible refine (caw _).mono ?_); clear caw; rintro e W4 ⟨rfl, hb4⟩; have HB4 := Lib.hid (bel2 HB5.out hb4); clear hb4))
    | fail)
  go_ret
  exact ⟨rfl, HB4.out⟩
set_option maxRecDepth 100000 in
set_option maxHeartbeats 12800000 in
theorem walk_yes (t0 : Int) (a0 : Option Addr) (cap0 : Nat) (N0 : List Nd) (w : World) (w0 : Ns w a0 cap0 N0) (s0 : Mid N0) (hL : Lgt N0) (s : Sh) (hT : Tr N0 s t0) :
    Calls Try.prog 6 #[.agg #[.int .i64 t0, .slice a0 N0.length cap0]] w fun e w' => e = .returned (.bool true) ∧ Below w.heap.size w w' := by
  have b1 : Below w.heap.size w (w.alloc (.cells #[.int .i64 t0, .slice a0 N0.length cap0] 24)) := al1 _
  have hs := hL.small
  have hP : PlO N0 t0 true (lay N0 s 0) := .inl ⟨s, hT, rfl, rfl⟩
  have hPl : (lay N0 s 0).length ≤ 1000000 := by have := (hP.small hs).1; omega
  have cl := light_any t0 a0 cap0 N0 _ (w0.keep b1) s0 0 (fun _ => rfl) (fun h => absurd hL h)
  have cm := fun W (hb : Below w.heap.size w W) => tmay_any t0 a0 cap0 N0 W (w0.keep hb) hs true ⟨fun _ => ⟨s, hT⟩, fun _ => rfl⟩
  have cst := fun W (hb : Below w.heap.size w W) => rsametree_gen t0 t0 a0 a0 cap0 cap0 N0 N0 W (w0.keep hb) (w0.keep hb) true true _ _ hPl hPl (rp_any hs hP) (rp_any hs hP) true (by simp)
  have cf := fun key W (hb : Below w.heap.size w W) => tfind_yes t0 key a0 cap0 N0 W (w0.keep hb) hs s hT
  have ctp := fun i (au ad : Option Addr) (n m cu cd : Nat) W (hn : n ≤ 1000000) (h0 : 0 < n) => top_any i au ad n m cu cd W hn false ⟨fun h => (by cases h), fun h => absurd h (by omega)⟩
  have cv := fun W (hb : Below w.heap.size w W) => tleaves_yes t0 a0 cap0 N0 W (w0.keep hb) hs s hT
  have hlt := lvO_lt (.inl ⟨s, hT, rfl⟩ : lvO N0 t0 s.lvs)
  have ca := fun W (hb : Below w.heap.size w W) => tall_gen t0 a0 cap0 N0 W (w0.keep hb) hs s.lvs hlt (fun W hW => tleaves_yes t0 a0 cap0 N0 W hW hs s hT)
  have hS : decide (Srt (allP N0 s.lvs)) = true := decide_eq_true (allP_srt hT.hg).1
  have cmp := fun ao cp W (hW : Prs W ao cp (allP N0 s.lvs)) => rmay_any ao cp _ W hW true hS
  have caw := fun W => awake_any W
  have HB := Lib.hid b1
  have G1 := Lib.hid (Bk.new w #[.int .i64 t0, .slice a0 N0.length cap0] 24)
  have HT := Lib.hid hT
  have HN := Lib.hid w0
  have hl1 : N0.length ≤ 450 := hL.1
  have HL2 := Lib.hid hL.2
  have HC := Lib.hid (tr_counts hT)
  unfold FdIs at cf
  unfold LvIs at cv
  unfold RowIs at ca
  unfold trv at cl cm cst cf cv ca
  unfold ptv at ctp
  rw [(tr_counts hT).1] at cv
  rw [(tr_counts hT).2] at ca cmp
  clear b1 w0 s0 hT hs hlt hS hP hPl hL
  go_enter Try.func6, Try.ntmps6
  go_wp2_with (first
    | (go_at_call 9; ((with_reducible refine cl.mono ?_); clear cl; rintro e W3 ⟨rfl, hb3⟩; have G3 := Lib.hid (G1.out.keep hb3); have HB3 := Lib.hid (bel2 HB.out hb3); have k0 := G3.out.at_ 0 _ rfl; have k1 := G3.out.at_ 1 _ rfl; clear hb3 G1 HB))
    | (go_at_call 16; ((with_reducible refine (cm _ HB3.out).mono ?_); clear cm k0 k1; rintro e W5 ⟨rfl, hb5⟩; have G5 := Lib.hid (G3.out.keep hb5); have HB5 := Lib.hid (bel2 HB3.out hb5); have k0 := G5.out.at_ 0 _ rfl; have k1 := G5.out.at_ 1 _ rfl; clear hb5 G3 HB3))
    | (go_at_call 18; ((with_reducible refine (cst _ HB5.out).mono ?_); clear cst k0 k1; rintro e W6 ⟨rfl, hb6⟩; have G6 := Lib.hid (G5.out.keep hb6); have HB6 := Lib.hid (bel2 HB5.out hb6); have k0 := G6.out.at_ 0 _ rfl; have k1 := G6.out.at_ 1 _ rfl; clear hb6 G5 HB5))
    | fail)
  clear k0 k1
  go_loopw [29, 3, 4] (fun i x y wr => ∃ n : Nat, n ≤ N0.length ∧ i = .int .i64 n ∧ x = .int .i64 (rcnt N0 n : Nat) ∧ y = .int .i64 (psum N0 n : Nat) ∧ Below W6.heap.size W6 wr) (fun i _ _ _ => N0.length - (intOf i).toNat)
  case atStart => exact ⟨0, Nat.zero_le _, rfl, rfl, rfl, Below.refl _ _⟩
  case round =>
    obtain ⟨n, hn, rfl, rfl, rfl, hb⟩ := hrel
    have HBR := Lib.hid hb
    have GR := Lib.hid (G6.out.keep hb)
    have HBW := Lib.hid (bel2 HB6.out hb)
    by_cases hlt : n < N0.length
    · obtain ⟨x, hx⟩ : ∃ x, N0[n]? = some x := ⟨_, List.getElem?_eq_getElem hlt⟩
      obtain ⟨b, o, pa, pc, rfl, hx1⟩ := (HN.out.keep HBW.out).2.2 n x hx
      have hn0 : (0 : Int) ≤ (n : Int) := by omega
      have hnl : (n : Int) < (N0.length : Int) := by omega
      have hw1 := w_one (R := rcnt N0 n) (by have := rcnt_le N0 n; omega)
      have hw2 := w_two (R := psum N0 n) (S := x.p.length) (Nat.le_trans (psum_mono n) HL2.out) (by have h1 := psum_mono (N := N0) (n + 1); rw [psum_succ hx] at h1; have := HL2.out; omega)
      have HS := Lib.hid (psum_succ hx)
      have HR := Lib.hid (rcnt_succ hx)
      have HU := Lib.hid (fun hr => dn_route HT.out hx hr x.k)
      have HU2 := Lib.hid (dn_ulen N0 x.k s)
      obtain ⟨e0, e1, e2, e3, e4, e5, -⟩ := hx1
      obtain ⟨r, k, l, bb, p, st⟩ := x
      dsimp only at e0 e1 e2 e3 e4 e5 hw2 HS HR HU HU2
      have G8 := Lib.hid (GR.out.past (.cells #[.bool r, .int .i64 k, .int .i64 l, .int .i64 bb, .slice pa p.length pc, .int .i64 st] 51))
      have HB8 := Lib.hid (bel1 HBW.out (.cells #[.bool r, .int .i64 k, .int .i64 l, .int .i64 bb, .slice pa p.length pc, .int .i64 st] 51))
      have HB9 := Lib.hid (bel1 HBR.out (.cells #[.bool r, .int .i64 k, .int .i64 l, .int .i64 bb, .slice pa p.length pc, .int .i64 st] 51))
      have N8 := Lib.hid (Bk.new wr #[.bool r, .int .i64 k, .int .i64 l, .int .i64 bb, .slice pa p.length pc, .int .i64 st] 51)
      clear hx hb
      cases r
      · go_wp2_with (fail)
        go_roundw
        case rel => exact ⟨n + 1, by omega, by go_num, by rw [HR.out]; rfl, by rw [HS.out, hw2], HB9.out⟩
        case measure => simp [intOf]; omega
      · have k0 := G8.out.at_ 0 _ rfl
        have k1 := G8.out.at_ 1 _ rfl
        have hu0 := HU.out rfl
        have HPL := Lib.hid HT.out.all
        go_wp2_with (first
          | (go_at_call 27; ((with_reducible refine (cf _ _ HB8.out).mono ?_); clear k0 k1; rintro e W9 ⟨au, cu, ad, cd, rfl, -, -, hb9⟩; have N9 := Lib.hid ((N8.out.keep hb9).past (.cells #[.int .i64 ((dn N0 k s).i : Int), .slice au (dn N0 k s).u.length cu, .slice ad (dn N0 k s).u.length cd] 41)); have HB10 := Lib.hid (bel1 (bel2 HB9.out hb9) (.cells #[.int .i64 ((dn N0 k s).i : Int), .slice au (dn N0 k s).u.length cu, .slice ad (dn N0 k s).u.length cd] 41)); clear hb9))
          | (go_at_call 29; ((with_reducible refine (ctp _ _ _ _ _ _ _ _ (by have := HU2.out; have := HPL.out; omega) hu0).mono ?_); rintro e W11 ⟨rfl, hb11⟩; have n4 := (N9.out.keep hb11).at_ 4 _ rfl; have HB11 := Lib.hid (bel2 HB10.out hb11); clear hb11))
          | fail)
        go_roundw
        case rel => exact ⟨n + 1, by omega, by go_num, by rw [HR.out]; simp, by rw [HS.out, hw2], HB11.out⟩
        case measure => simp [intOf]; omega
    · obtain rfl : n = N0.length := by omega
      have k0 := GR.out.at_ 0 _ rfl
      have k1 := GR.out.at_ 1 _ rfl
      have hw1 := w_one (R := rcnt N0 N0.length) (by have := rcnt_le N0 N0.length; omega)
      go_wp2_with (first
        | (go_at_call 20; ((with_reducible refine (cv _ HBW.out).mono ?_); clear cv k0 k1; rintro e W12 ⟨av, cvv, rfl, -, hb12⟩; have G12 := Lib.hid (GR.out.keep hb12); have HB12 := Lib.hid (bel2 HBW.out hb12); have k0 := G12.out.at_ 0 _ rfl; have k1 := G12.out.at_ 1 _ rfl; clear hb12))
        | (go_at_call 23; ((with_reducible refine (ca _ HB12.out).mono ?_); clear ca k0 k1; rintro e W13 ⟨al, cal, rfl, hal, hb13⟩; have HAL := Lib.hid (show Prs W13 al cal (allP N0 s.lvs) from hal.prs HC.out.2.symm); have HB13 := Lib.hid (bel2 HB12.out hb13); clear hb13 hal))
        | (go_at_call 32; ((with_reducible refine (cmp _ _ _ HAL.out).mono ?_); clear cmp; rintro e W14 ⟨rfl, hb14⟩; have HB14 := Lib.hid (bel2 HB13.out hb14); clear hb14))
        | (go_at_call 10; ((with_reducible refine (caw _).mono ?_); clear caw; rintro e W15 ⟨rfl, hb15⟩; have HB15 := Lib.hid (bel2 HB14.out hb15); clear hb15))
        | fail)
      go_ret
      exact ⟨rfl, HB15.out⟩

theorem walk (t0 : Int) (a0 : Option Addr) (cap0 : Nat) (N0 : List Nd) (w : World) (w0 : Ns w a0 cap0 N0) (s0 : Mid N0) :
    Calls Try.prog 6 #[.agg #[.int .i64 t0, .slice a0 N0.length cap0]] w fun e w' => e = .returned (.bool true) ∧ Below w.heap.size w w' := by
  by_cases hL : Lgt N0
  · rcases Classical.em (∃ s, Tr N0 s t0) with ⟨s, hs⟩ | hs
    · exact walk_yes t0 a0 cap0 N0 w w0 s0 hL s hs
    · exact walk_no t0 a0 cap0 N0 w w0 s0 hL (fun s h => hs ⟨s, h⟩)
  · exact walk_big t0 a0 cap0 N0 w w0 s0 hL

set_option maxRecDepth 100000 in
theorem lifted (os : Os) (started : os.Started) (H : Type) (enc : TypeId × Value → H) :
    ReturnsInHanded {} Try.checked os 6 .any (Rows.treeCountsSpec.pre6 enc Try.prog Try.f6 Rows.treeCountsRow.domain false) (Rows.treeCountsSpec.post enc Try.prog Try.f6 false true false false) := by
  refine returnsInHanded_of_change_sized (C := Try.checked) own started (by kernel_rfl) Try.func6
    (ChangeSpec.witness6 (enc := enc) (C := Try.checked) false ⟨#[], #[.agg #[.int .i64 0, .slice none 0 0]], []⟩ 8 (by kernel_rfl) (by kernel_rfl) (by kernel_rfl) (by kernel_rfl)) ?_
  intro W base args ds gs before hval0 hW hcnd hsz _
  have hval : ∀ (j : Nat) t v, Try.f6.params[j]? = some t → args[j]? = some v → Value.okWide Try.prog W .any base t v := hval0
  have hW' := hW
  obtain ⟨p, q, hA0, hV, rfl, hfz, hnd⟩ := hW
  have hA : DataW.TrodAll enc Try.prog W 0 (fun _ => true) true Try.f6.params.toList args.toList ds p := hA0
  rw [Try.params6] at hA hval
  obtain ⟨v0, vs0, d0, ds0, p0, q0, hargs, rfl, rfl, h0, r0⟩ := trodAll_cons hA
  obtain ⟨rfl, rfl, rfl⟩ := trodAll_nil r0
  obtain rfl : args = #[v0] := by cases args; simp_all
  obtain ⟨rfl, rfl⟩ := trodVars_none hV
  have k0 := h0
  have lt0 : ∀ x ∈ p0, x.block < W.heap.size := by obtain ⟨m, hm⟩ := k0; exact DataW.trod_lt m _ _ _ hm
  obtain ⟨u0, rfl, _⟩ := okWide_struct Try.underlying24 (hval 0 24 v0 rfl rfl)
  obtain ⟨t0_, a0, cap0, N0, e0, w0, s0⟩ := fields_tree (enc := enc) (w := W) (cs := u0.toList) (fuel := h0.choose) (by simpa [Value.cells] using h0.choose_spec) (fun n hn => by simpa using List.all_eq_true.1 hsz n (DataW.weights_mem_each (j := 0) rfl rfl n hn))
  obtain rfl : u0 = #[.int .i64 t0_, .slice a0 N0.length cap0] := by cases u0; simp_all
  clear hA0 hval0
  refine (walk t0_ a0 cap0 N0 W w0 s0).mono fun e W' ⟨he, bel⟩ => ?_
  subst he
  exact ⟨_, rfl, _, _, _, [], _, [], hW', trodAll_mk1 (shut_bool Try.underlying4 _), (trodAll_cons_mk (Below.trod laidOut (by kernel_rfl) (of_decide_eq_true (by kernel_rfl)) k0 bel lt0) trodAll_mk0), rfl, bel.frame _, fun h => by cases h⟩

theorem over : Rows.treeCountsRow.holds Try.pinned (OpenSpec.ofChange Rows.treeCountsSpec) :=
  OpenClaim.holds_of_wide 6 Try.f6 rfl rfl rfl rfl rfl rfl rfl ⟨rfl, rfl, rfl, rfl, rfl⟩ rfl rfl rfl rfl rfl (by kernel_rfl) Try.func6 (by kernel_rfl)
    (of_decide_eq_true (by kernel_rfl)) (by unfold Func.isWrapper; first | (rw [if_pos (by decide +kernel)]; kernel_rfl) | (rw [if_neg (by decide +kernel)]; exact ⟨rfl, rfl⟩))
    (fun os started H enc _ => lifted os started H enc)

theorem treeCountsHolds : Rows.TreeCountsSaid := over
#print axioms treeCountsHolds
end Go.Proofs.Ytlpjbgojijkdjaa.treeCounts
