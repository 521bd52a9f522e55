/- TreeOne (P14.1): the tree that One makes of up to 100 pairs may be, holds these pairs (or none, where they may not be), has one leaf, and every key is found there, with nothing above. No condition. -/
import Derived.Test.YtlpjbgojijkdjaaRows
import Derived.Test.YtlpjbgojijkdjaaTrY
import Derived.LoopTactic
import Derived.WalkKit
import Derived.ProofKit
import Derived.OpenShut
import Derived.ChangeOld
import Derived.Below
namespace Go.Proofs.Ytlpjbgojijkdjaa.treeOne
open Go.ChangeShapes Go.WideShapes Go.ChangeAt Go.RowKit
set_option linter.all false

theorem own : ownKnob Try.prog.godebug = none := by kernel_rfl
theorem laidOut : laidOutB Try.prog = true := by kernel_rfl

/-- What holds all along. -/
structure Ow (w : World) (qt q2 : Nat) (at_ : Option Addr) (ct : Nat) (L : List Pr) (au : Option Addr) (cu : Nat) (ad : Option Addr) (cd : Nat) (W : World) : Prop where
  t : Bk W qt [.int .i64 0, .slice at_ 1 ct]
  p : Bk W q2 [.int .i64 0, .slice au 0 cu, .slice ad 0 cd]
  n : Ns W at_ ct (oneN L)
  d : RB W ad cd []
  b : Below w.heap.size w W
theorem Ow.keep {w : World} {qt q2 : Nat} {at_ : Option Addr} {ct : Nat} {L : List Pr} {au : Option Addr} {cu : Nat} {ad : Option Addr} {cd : Nat} {W W' : World} (h : Ow w qt q2 at_ ct L au cu ad cd W) (hb : Below W.heap.size W W') : Ow w qt q2 at_ ct L au cu ad cd W' :=
  ⟨h.t.keep hb, h.p.keep hb, h.n.keep hb, h.d.below hb, bel2 h.b hb⟩
theorem one_small {L : List Pr} (h : L.length ≤ 2100) : Small (oneN L) := ⟨by simp [oneN], fun n hn => by simp [oneN] at hn; subst hn; exact h⟩
theorem one_all (L : List Pr) : allP (oneN L) [0] = L := by simp [allP, oneN, nd]
set_option maxRecDepth 100000 in
set_option maxHeartbeats 6400000 in
theorem walk_srt (a0 : Option Addr) (cap0 : Nat) (z0 : List Pr) (a1 : Int) (w : World) (w0 : Prs w a0 cap0 z0) (hbig : ¬ 100 < z0.length) (hs2 : Srt z0) :
    Calls Try.prog 7 #[.slice a0 z0.length cap0, .int .i64 a1] w fun e w' => e = .returned (.bool true) ∧ Below w.heap.size w w' := by
  have hL2 : z0.length ≤ 2100 := by omega
  have hLL : z0 = if Srt z0 then z0 else [] := by rw [if_pos hs2]
  have hBM : decide (Srt z0) = true := by simp [hs2]
  have cf := fun at_ ct W (hN : Ns W at_ ct (oneN z0)) => tfind_yes 0 a1 at_ ct (oneN z0) W hN (one_small hL2) (.lf 0) (tr_one z0 hs2)
  have cm := fun at_ ct W (hN : Ns W at_ ct (oneN z0)) => tmay_any 0 at_ ct (oneN z0) W hN (one_small hL2) true ⟨fun _ => ⟨.lf 0, tr_one z0 hs2⟩, fun _ => rfl⟩
  have cv := fun at_ ct W (hN : Ns W at_ ct (oneN z0)) => tleaves_yes 0 at_ ct (oneN z0) W hN (one_small hL2) (.lf 0) (tr_one z0 hs2)
  have ca := fun at_ ct W (hN : Ns W at_ ct (oneN z0)) => tall_gen 0 at_ ct (oneN z0) W hN (one_small hL2) [0] ⟨by simp [oneN], fun i hi => by simp at hi; subst hi; simp [oneN]⟩ (fun W hW => tleaves_yes 0 at_ ct (oneN z0) W hW (one_small hL2) (.lf 0) (tr_one z0 hs2))
  have co := tone_any a0 cap0 z0 w w0 (by omega) z0 hLL
  have cmp := fun W (hW : Prs W a0 cap0 z0) => rmay_any a0 cap0 z0 W hW true hBM
  have cs := fun ao cp W (h1 : Prs W ao cp z0) (h2 : Prs W a0 cap0 z0) => samep_any ao a0 cp cap0 z0 z0 W h1 h2 true (by simp)
  have cr := fun (au ad : Option Addr) (cu cd : Nat) W (hR : RB W ad cd []) => right_any' 0 au ad 0 cu cd [] W (by omega) rfl hR false rfl
  have ctp := fun (au ad : Option Addr) (cu cd : Nat) W => top_any 0 au ad 0 0 cu cd W (by omega) true (by simp)
  have caw := fun W => awake_any W
  unfold FdIs at cf
  unfold LvIs at cv
  unfold TnIs at co
  unfold RowIs at ca
  rw [one_all] at ca
  have e1 : (oneN z0).length = 1 := rfl
  have e2 : Sh.lvs (.lf 0) = [0] := rfl
  rw [e2] at cv
  simp only [dn] at cf
  unfold trv at cf cm cv ca
  unfold ptv at cr ctp
  rw [e1] at cf cm cv ca co
  simp only [List.length_cons, List.length_nil] at cf cv 
  have HW := Lib.hid w0
  have hlen1 : z0.length ≤ 100 := by omega
  clear hs2 hL2 hLL hBM e1 e2 w0
  go_enter Try.func7, Try.ntmps7
  go_upto_region 4 with (go_at_call 25; ((with_reducible refine co.mono ?_); clear co; rintro e W1 ⟨at_, ct, rfl, hN, hb⟩; have H1 := Lib.hid (And.intro hN hb); clear hN hb))
  have T1 := Lib.hid (Bk.new W1 #[.int .i64 0, .slice at_ 1 ct] 24)
  have N1 := Lib.hid (H1.out.1.keep (al1 (.cells #[.int .i64 0, .slice at_ 1 ct] 24)))
  have HB1 := Lib.hid (bel1 H1.out.2 (.cells #[.int .i64 0, .slice at_ 1 ct] 24))
  clear H1
  obtain ⟨qt, hqt⟩ : ∃ q, W1.heap.size = q := ⟨_, rfl⟩
  rw [hqt] at T1 ⊢
  clear hqt
  generalize (World.alloc W1 _ : World) = W2 at *
  have t0 := T1.out.at_ 0 _ rfl
  have t1 := T1.out.at_ 1 _ rfl
  go_upto_region 5 with (go_at_call 27; ((with_reducible refine (cf _ _ _ N1.out).mono ?_); clear cf; rintro e W3 ⟨au, cu, ad, cd, rfl, hu, hd, hb1⟩; have HD := Lib.hid (And.intro hd hb1); clear hu hd hb1))
  have A0 := Lib.hid (show Ow w qt W3.heap.size at_ ct z0 au cu ad cd (W3.alloc (.cells #[.int .i64 0, .slice au 0 cu, .slice ad 0 cd] 41)) from
    ⟨(T1.out.keep HD.out.2).past _, Bk.new W3 #[.int .i64 0, .slice au 0 cu, .slice ad 0 cd] 41, (N1.out.keep HD.out.2).keep (al1 _), HD.out.1.below (al1 _), bel1 (bel2 HB1.out HD.out.2) _⟩)
  clear t0 t1 T1 N1 HB1 HD
  obtain ⟨q2, hq2⟩ : ∃ q, W3.heap.size = q := ⟨_, rfl⟩
  rw [hq2] at A0 ⊢
  clear hq2
  generalize (World.alloc W3 _ : World) = W4 at *
  go_wp2_with (first
    | (go_at_call 32; ((with_reducible refine (cmp _ (HW.out.below A0.out.b)).mono ?_); clear cmp; rintro e W5 ⟨rfl, hb5⟩; have A5 := Lib.hid (A0.out.keep hb5); clear hb5 A0; have t0 := A5.out.t.at_ 0 _ rfl; have t1 := A5.out.t.at_ 1 _ rfl))
    | (go_at_call 16; ((with_reducible refine (cm _ _ _ A5.out.n).mono ?_); clear cm t0 t1; rintro e W7 ⟨rfl, hb7⟩; have A7 := Lib.hid (A5.out.keep hb7); clear hb7 A5; have p0 := A7.out.p.at_ 0 _ rfl; have p1 := A7.out.p.at_ 1 _ rfl; have p2 := A7.out.p.at_ 2 _ rfl))
    | (go_at_call 29; ((with_reducible refine (ctp _ _ _ _ _).mono ?_); clear ctp p0 p1 p2; rintro e W9 ⟨rfl, hb9⟩; have A9 := Lib.hid (A7.out.keep hb9); clear hb9 A7; have p0 := A9.out.p.at_ 0 _ rfl; have p1 := A9.out.p.at_ 1 _ rfl; have p2 := A9.out.p.at_ 2 _ rfl))
    | (go_at_call 30; ((with_reducible refine (cr _ _ _ _ _ A9.out.d).mono ?_); clear cr p0 p1 p2; rintro e W8 ⟨rfl, hb8⟩; have A8 := Lib.hid (A9.out.keep hb8); clear hb8 A9; have t0 := A8.out.t.at_ 0 _ rfl; have t1 := A8.out.t.at_ 1 _ rfl))
    | (go_at_call 23; ((with_reducible refine (ca _ _ _ A8.out.n).mono ?_); clear ca t0 t1; rintro e W10 ⟨al, cal, rfl, hal, hb10⟩; have A10 := Lib.hid (A8.out.keep hb10); have HAL := Lib.hid (show Prs W10 al cal z0 from hal.prs rfl); clear hb10 A8 hal))
    | (go_at_call 22; ((with_reducible refine (cs _ _ _ HAL.out (HW.out.below A10.out.b)).mono ?_); clear cs; rintro e W11 ⟨rfl, hb11⟩; have A11 := Lib.hid (A10.out.keep hb11); clear hb11 A10; have t0 := A11.out.t.at_ 0 _ rfl; have t1 := A11.out.t.at_ 1 _ rfl))
    | (go_at_call 20; ((with_reducible refine (cv _ _ _ A11.out.n).mono ?_); clear cv t0 t1; rintro e W12 ⟨av, cvv, rfl, -, hb12⟩; have HB12 := Lib.hid (bel2 A11.out.b hb12); clear hb12))
    | (go_at_call 10; ((with_reducible refine (caw _).mono ?_); clear caw; rintro e W13 ⟨rfl, hb13⟩; have HB13 := Lib.hid (bel2 HB12.out hb13); clear hb13))
    | fail)
  go_ret
  exact ⟨rfl, HB13.out⟩
set_option maxRecDepth 100000 in
set_option maxHeartbeats 6400000 in
theorem walk_not (a0 : Option Addr) (cap0 : Nat) (z0 : List Pr) (a1 : Int) (w : World) (w0 : Prs w a0 cap0 z0) (hbig : ¬ 100 < z0.length) (hs : ¬ Srt z0) :
    Calls Try.prog 7 #[.slice a0 z0.length cap0, .int .i64 a1] w fun e w' => e = .returned (.bool true) ∧ Below w.heap.size w w' := by
  have hL2 : ([] : List Pr).length ≤ 2100 := by simp
  have hs2 : Srt [] := Srt.nil
  have hLL : ([] : List Pr) = if Srt z0 then z0 else [] := by rw [if_neg hs]
  have hBM : decide (Srt z0) = false := by simp [hs]
  clear hs
  have cf := fun at_ ct W (hN : Ns W at_ ct (oneN [])) => tfind_yes 0 a1 at_ ct (oneN []) W hN (one_small hL2) (.lf 0) (tr_one [] hs2)
  have cm := fun at_ ct W (hN : Ns W at_ ct (oneN [])) => tmay_any 0 at_ ct (oneN []) W hN (one_small hL2) true ⟨fun _ => ⟨.lf 0, tr_one [] hs2⟩, fun _ => rfl⟩
  have cv := fun at_ ct W (hN : Ns W at_ ct (oneN [])) => tleaves_yes 0 at_ ct (oneN []) W hN (one_small hL2) (.lf 0) (tr_one [] hs2)
  have ca := fun at_ ct W (hN : Ns W at_ ct (oneN [])) => tall_gen 0 at_ ct (oneN []) W hN (one_small hL2) [0] ⟨by simp [oneN], fun i hi => by simp at hi; subst hi; simp [oneN]⟩ (fun W hW => tleaves_yes 0 at_ ct (oneN []) W hW (one_small hL2) (.lf 0) (tr_one [] hs2))
  have co := tone_any a0 cap0 z0 w w0 (by omega) [] hLL
  have cmp := fun W (hW : Prs W a0 cap0 z0) => rmay_any a0 cap0 z0 W hW false hBM
  have cs := fun ao cp W (h1 : Prs W ao cp []) (h2 : Prs W none 0 []) => samep_any ao none cp 0 [] [] W h1 h2 true (by simp)
  have cr := fun (au ad : Option Addr) (cu cd : Nat) W (hR : RB W ad cd []) => right_any' 0 au ad 0 cu cd [] W (by omega) rfl hR false rfl
  have ctp := fun (au ad : Option Addr) (cu cd : Nat) W => top_any 0 au ad 0 0 cu cd W (by omega) true (by simp)
  have caw := fun W => awake_any W
  unfold FdIs at cf
  unfold LvIs at cv
  unfold TnIs at co
  unfold RowIs at ca
  rw [one_all] at ca
  have e1 : (oneN []).length = 1 := rfl
  have e2 : Sh.lvs (.lf 0) = [0] := rfl
  rw [e2] at cv
  simp only [dn] at cf
  unfold trv at cf cm cv ca
  unfold ptv at cr ctp
  rw [e1] at cf cm cv ca co
  simp only [List.length_cons, List.length_nil] at cf cv ca cs
  have HW := Lib.hid w0
  have hlen1 : z0.length ≤ 100 := by omega
  clear hs2 hL2 hLL hBM e1 e2 w0
  go_enter Try.func7, Try.ntmps7
  go_upto_region 4 with (go_at_call 25; ((with_reducible refine co.mono ?_); clear co; rintro e W1 ⟨at_, ct, rfl, hN, hb⟩; have H1 := Lib.hid (And.intro hN hb); clear hN hb))
  have T1 := Lib.hid (Bk.new W1 #[.int .i64 0, .slice at_ 1 ct] 24)
  have N1 := Lib.hid (H1.out.1.keep (al1 (.cells #[.int .i64 0, .slice at_ 1 ct] 24)))
  have HB1 := Lib.hid (bel1 H1.out.2 (.cells #[.int .i64 0, .slice at_ 1 ct] 24))
  clear H1
  obtain ⟨qt, hqt⟩ : ∃ q, W1.heap.size = q := ⟨_, rfl⟩
  rw [hqt] at T1 ⊢
  clear hqt
  generalize (World.alloc W1 _ : World) = W2 at *
  have t0 := T1.out.at_ 0 _ rfl
  have t1 := T1.out.at_ 1 _ rfl
  go_upto_region 5 with (go_at_call 27; ((with_reducible refine (cf _ _ _ N1.out).mono ?_); clear cf; rintro e W3 ⟨au, cu, ad, cd, rfl, hu, hd, hb1⟩; have HD := Lib.hid (And.intro hd hb1); clear hu hd hb1))
  have A0 := Lib.hid (show Ow w qt W3.heap.size at_ ct [] au cu ad cd (W3.alloc (.cells #[.int .i64 0, .slice au 0 cu, .slice ad 0 cd] 41)) from
    ⟨(T1.out.keep HD.out.2).past _, Bk.new W3 #[.int .i64 0, .slice au 0 cu, .slice ad 0 cd] 41, (N1.out.keep HD.out.2).keep (al1 _), HD.out.1.below (al1 _), bel1 (bel2 HB1.out HD.out.2) _⟩)
  clear t0 t1 T1 N1 HB1 HD
  obtain ⟨q2, hq2⟩ : ∃ q, W3.heap.size = q := ⟨_, rfl⟩
  rw [hq2] at A0 ⊢
  clear hq2
  generalize (World.alloc W3 _ : World) = W4 at *
  go_wp2_with (first
    | (go_at_call 32; ((with_reducible refine (cmp _ (HW.out.below A0.out.b)).mono ?_); clear cmp; rintro e W5 ⟨rfl, hb5⟩; have A5 := Lib.hid (A0.out.keep hb5); clear hb5 A0; have t0 := A5.out.t.at_ 0 _ rfl; have t1 := A5.out.t.at_ 1 _ rfl))
    | (go_at_call 16; ((with_reducible refine (cm _ _ _ A5.out.n).mono ?_); clear cm t0 t1; rintro e W7 ⟨rfl, hb7⟩; have A7 := Lib.hid (A5.out.keep hb7); clear hb7 A5; have p0 := A7.out.p.at_ 0 _ rfl; have p1 := A7.out.p.at_ 1 _ rfl; have p2 := A7.out.p.at_ 2 _ rfl))
    | (go_at_call 29; ((with_reducible refine (ctp _ _ _ _ _).mono ?_); clear ctp p0 p1 p2; rintro e W9 ⟨rfl, hb9⟩; have A9 := Lib.hid (A7.out.keep hb9); clear hb9 A7; have p0 := A9.out.p.at_ 0 _ rfl; have p1 := A9.out.p.at_ 1 _ rfl; have p2 := A9.out.p.at_ 2 _ rfl))
    | (go_at_call 30; ((with_reducible refine (cr _ _ _ _ _ A9.out.d).mono ?_); clear cr p0 p1 p2; rintro e W8 ⟨rfl, hb8⟩; have A8 := Lib.hid (A9.out.keep hb8); clear hb8 A9; have t0 := A8.out.t.at_ 0 _ rfl; have t1 := A8.out.t.at_ 1 _ rfl))
    | (go_at_call 23; ((with_reducible refine (ca _ _ _ A8.out.n).mono ?_); clear ca t0 t1; rintro e W10 ⟨al, cal, rfl, hal, hb10⟩; have A10 := Lib.hid (A8.out.keep hb10); have HAL := Lib.hid (show Prs W10 al cal [] from hal.prs rfl); clear hb10 A8 hal))
    | (go_at_call 22; ((with_reducible refine (cs _ _ _ HAL.out (Prs.nil _)).mono ?_); clear cs; rintro e W11 ⟨rfl, hb11⟩; have A11 := Lib.hid (A10.out.keep hb11); clear hb11 A10; have t0 := A11.out.t.at_ 0 _ rfl; have t1 := A11.out.t.at_ 1 _ rfl))
    | (go_at_call 20; ((with_reducible refine (cv _ _ _ A11.out.n).mono ?_); clear cv t0 t1; rintro e W12 ⟨av, cvv, rfl, -, hb12⟩; have HB12 := Lib.hid (bel2 A11.out.b hb12); clear hb12))
    | (go_at_call 10; ((with_reducible refine (caw _).mono ?_); clear caw; rintro e W13 ⟨rfl, hb13⟩; have HB13 := Lib.hid (bel2 HB12.out hb13); clear hb13))
    | fail)
  go_ret
  exact ⟨rfl, HB13.out⟩

theorem walk (a0 : Option Addr) (cap0 : Nat) (z0 : List Pr) (a1 : Int) (w : World) (w0 : Prs w a0 cap0 z0) (w1 : (Lit.int .i64 a1).wf = true) :
    Calls Try.prog 7 #[.slice a0 z0.length cap0, .int .i64 a1] w fun e w' => e = .returned (.bool true) ∧ Below w.heap.size w w' := by
  by_cases hbig : 100 < z0.length
  · have hbig' : (100 : Int) < (z0.length : Int) := by omega
    have caw := fun W => awake_any W
    clear w0
    go_enter Try.func7, Try.ntmps7
    go_wp2_with (go_at_call 10; ((with_reducible refine (caw _).mono ?_); clear caw; rintro e W13 ⟨rfl, hb13⟩))
    go_ret
    exact ⟨rfl, hb13⟩
  by_cases hs : Srt z0
  · exact walk_srt a0 cap0 z0 a1 w w0 hbig hs
  · exact walk_not a0 cap0 z0 a1 w w0 hbig hs

set_option maxRecDepth 100000 in
theorem lifted (os : Os) (started : os.Started) (H : Type) (enc : TypeId × Value → H) :
    ReturnsInHanded {} Try.checked os 7 .any (Rows.treeOneSpec.pre6 enc Try.prog Try.f7 Rows.treeOneRow.domain false) (Rows.treeOneSpec.post enc Try.prog Try.f7 false true false false) := by
  refine returnsInHanded_of_change (C := Try.checked) own started (by kernel_rfl) Try.func7
    (ChangeSpec.witness6 (enc := enc) (C := Try.checked) false ⟨#[], #[.slice none 0 0, .int .i64 0], []⟩ 8 (by kernel_rfl) (by kernel_rfl) (by kernel_rfl) (by kernel_rfl)) ?_
  intro W base args ds gs before hval0 hW hcnd _
  have hval : ∀ (j : Nat) t v, Try.f7.params[j]? = some t → args[j]? = some v → Value.okWide Try.prog W .any base t v := hval0
  have hW' := hW
  obtain ⟨p, q, hA0, hV, rfl, hfz, hnd⟩ := hW
  have hA : DataW.TrodAll enc Try.prog W 0 (fun _ => true) true Try.f7.params.toList args.toList ds p := hA0
  rw [Try.params7] at hA hval
  obtain ⟨v0, vs0, d0, ds0, p0, q0, hargs, rfl, rfl, h0, r0⟩ := trodAll_cons hA
  obtain ⟨v1, vs1, d1, ds1, p1, q1, rfl, rfl, rfl, h1, r1⟩ := trodAll_cons r0
  obtain ⟨rfl, rfl, rfl⟩ := trodAll_nil r1
  obtain rfl : args = #[v0, v1] := by cases args; simp_all
  obtain ⟨rfl, rfl⟩ := trodVars_none hV
  have k0 := h0
  have lt0 : ∀ x ∈ p0, x.block < W.heap.size := by obtain ⟨m, hm⟩ := k0; exact DataW.trod_lt m _ _ _ hm
  obtain ⟨b0, l0, c0, rfl⟩ := okWide_slice Try.underlying25 (hval 0 25 v0 rfl rfl)
  obtain ⟨a0, cap0, z0, e0, w0⟩ := open_pairs (enc := enc) (w := W) (v := .slice b0 l0 c0) (fuel := h0.choose) (by simpa [Value.cells] using h0.choose_spec)
  rw [e0] at hval k0 h0 hW' hval0 hA0
  have k1 := h1
  have lt1 : ∀ x ∈ p1, x.block < W.heap.size := by obtain ⟨m, hm⟩ := k1; exact DataW.trod_lt m _ _ _ hm
  obtain ⟨a1, rfl, rfl, rfl, w1⟩ := open_int Try.underlying3 (hval 1 3 v1 rfl rfl) h1
  clear hA0 hval0
  rw [e0]; refine (walk a0 cap0 z0 a1 W w0 w1).mono fun e W' ⟨he, bel⟩ => ?_
  subst he
  exact ⟨_, rfl, _, _, _, [], _, [], hW', trodAll_mk1 (shut_bool Try.underlying4 _), (trodAll_cons_mk (Below.trod laidOut (by kernel_rfl) (of_decide_eq_true (by kernel_rfl)) k0 bel lt0) (trodAll_cons_mk (Below.trod laidOut (by kernel_rfl) (of_decide_eq_true (by kernel_rfl)) k1 bel lt1) trodAll_mk0)), rfl, bel.frame _, fun h => by cases h⟩

theorem over : Rows.treeOneRow.holds Try.pinned (OpenSpec.ofChange Rows.treeOneSpec) :=
  OpenClaim.holds_of_wide 7 Try.f7 rfl rfl rfl rfl rfl rfl rfl ⟨rfl, rfl, rfl, rfl, rfl⟩ rfl rfl rfl rfl rfl (by kernel_rfl) Try.func7 (by kernel_rfl)
    (of_decide_eq_true (by kernel_rfl)) (by unfold Func.isWrapper; first | (rw [if_pos (by decide +kernel)]; kernel_rfl) | (rw [if_neg (by decide +kernel)]; exact ⟨rfl, rfl⟩))
    (fun os started H enc _ => lifted os started H enc)

theorem treeOneHolds : Rows.TreeOneSaid := over
#print axioms treeOneHolds
end Go.Proofs.Ytlpjbgojijkdjaa.treeOne
