/- More calls than may be are an error of lin.Find; so is a history that may not be, or a beginning; of calls one after the other it finds their own order. Condition: the beginning's reading is of bulk at most 1048576. -/
import Derived.Test.YtadfnbmogobopaaRows
import Derived.Test.YtadfnbmogobopaaLiH
import Derived.Test.YtadfnbmogobopaaOrI
import Derived.LoopTactic
import Derived.WalkKit
import Derived.ProofKit
import Derived.OpenShut
import Derived.ChangeOld
import Derived.Below
import Derived.JoinedCond
import Derived.Deep.CondSized
namespace Go.Proofs.Ytadfnbmogobopaa.linMany
open Go.ChangeShapes Go.WideShapes Go.ChangeAt Go.RowKit
set_option linter.all false

theorem own : ownKnob Try.prog.godebug = none := by kernel_rfl
theorem laidOut : laidOutB Try.prog = true := by kernel_rfl

theorem doA_n (l : List Pr) (c k h : Int) : 0 ≤ (doA l c k h).n ∧ (doA l c k h).n ≤ (l.length : Int) := by
  have hr : (rngL l k h).length ≤ l.length := by unfold rngL; exact List.length_filter_le _ _
  unfold doA
  split
  · exact ⟨Int.le_refl _, Int.natCast_nonneg _⟩
  split
  · exact ⟨Int.le_refl _, Int.natCast_nonneg _⟩
  split
  · exact ⟨Int.natCast_nonneg _, Int.ofNat_le.2 hr⟩
  split
  · exact ⟨Int.natCast_nonneg _, Int.ofNat_le.2 hr⟩
  split
  · cases l[0]? <;> exact ⟨Int.le_refl _, Int.natCast_nonneg _⟩
  · cases l[l.length - 1]? <;> exact ⟨Int.le_refl _, Int.natCast_nonneg _⟩
theorem hiG_congr {th : Nat → Int} {f : Nat → OpD} {A B : Nat → Ad} : ∀ n, (∀ i, i < n → A i = B i) → hiG th f A n = hiG th f B n
  | 0, _ => rfl
  | n + 1, h => by simp only [hiG]; rw [hiG_congr n (fun i hi => h i (by omega)), h n (by omega)]
theorem hiG_set {th : Nat → Int} {f : Nat → OpD} {A : Nat → Ad} (a : Ad) {k : Nat} : ∀ {n : Nat}, k < n → (hiG th f A n).set (2 * k + 1) ⟨th k, true, f k, a⟩ = hiG th f (fun i => if i = k then a else A i) n
  | 0, h => by omega
  | n + 1, h => by
    simp only [hiG]
    by_cases e : k = n
    · subst e
      rw [List.set_append_right _ _ (by rw [hiG_len]; omega), hiG_len, show 2 * k + 1 - 2 * k = 1 by omega, if_pos rfl]
      rw [hiG_congr (B := fun i => if i = k then a else A i) k (fun i hi => by rw [if_neg (by omega)])]
      rfl
    · rw [List.set_append_left _ _ (by rw [hiG_len]; omega), hiG_set a (n := n) (by omega), if_neg (fun x => e x.symm)]
theorem hiG_get {th : Nat → Int} {f : Nat → OpD} {A : Nat → Ad} {k : Nat} : ∀ {n : Nat}, k < n → (hiG th f A n)[2 * k + 1]? = some ⟨th k, true, f k, A k⟩
  | 0, h => by omega
  | n + 1, h => by
    simp only [hiG]
    by_cases e : k = n
    · subst e
      rw [List.getElem?_append_right (by rw [hiG_len]; omega), hiG_len, show 2 * k + 1 - 2 * k = 1 by omega]
      rfl
    · rw [List.getElem?_append_left (by rw [hiG_len]; omega)]
      exact hiG_get (n := n) (by omega)
section
variable {W : World} {Q : Nat → Prop} {g n cap i : Nat} {M : List RE} {m : RE}
theorem erow_turnN (h : ERow W Q (.slice (some ⟨g, 0, none⟩) n cap) M) (hm : M[i]? = some m) (X : Int) :
    ERow (W.setCell ⟨g, i * 12 + 10, none⟩ (.int .i64 X)) Q (.slice (some ⟨g, 0, none⟩) n cap) (M.set i ⟨⟨m.e.t, m.e.r, m.e.o, { m.e.a with n := X }⟩, m.a, m.c⟩) := by
  have hp := h.prs m (List.mem_of_getElem? hm)
  exact h.cell hm ⟨⟨m.e.t, m.e.r, m.e.o, { m.e.a with n := X }⟩, m.a, m.c⟩ 10 _ (by decide) (by obtain ⟨⟨t, r, ⟨oc, ok, oh, ov⟩, ⟨ae, ao, ak, av, an, ap⟩⟩, pa, pc⟩ := m; rfl) hp.1 (fun hne b o sp e => ⟨(hp.2 hne b o sp e).1, fun x => (hp.2 hne b o sp e).2 (by rw [← x]; rfl)⟩)
theorem erow_turnK (h : ERow W Q (.slice (some ⟨g, 0, none⟩) n cap) M) (hm : M[i]? = some m) (X : Bool) :
    ERow (W.setCell ⟨g, i * 12 + 7, none⟩ (.bool X)) Q (.slice (some ⟨g, 0, none⟩) n cap) (M.set i ⟨⟨m.e.t, m.e.r, m.e.o, { m.e.a with ok := X }⟩, m.a, m.c⟩) := by
  have hp := h.prs m (List.mem_of_getElem? hm)
  exact h.cell hm ⟨⟨m.e.t, m.e.r, m.e.o, { m.e.a with ok := X }⟩, m.a, m.c⟩ 7 _ (by decide) (by obtain ⟨⟨t, r, ⟨oc, ok, oh, ov⟩, ⟨ae, ao, ak, av, an, ap⟩⟩, pa, pc⟩ := m; rfl) hp.1 (fun hne b o sp e => ⟨(hp.2 hne b o sp e).1, fun x => (hp.2 hne b o sp e).2 (by rw [← x]; rfl)⟩)
end
theorem esum_bd {N : List EvD} {B : Nat} (hm : ∀ e ∈ N, e.a.ps.length ≤ B) : ∀ n, esum N n ≤ n * B := by
  intro n
  induction n with
  | zero => simp [esum]
  | succ n ih =>
    cases hx : N[n]? with
    | none =>
      have : N.length ≤ n := List.getElem?_eq_none_iff.1 hx
      have e : esum N (n + 1) = esum N n := by unfold esum; rw [List.take_of_length_le (by omega), List.take_of_length_le (by omega)]
      rw [e, Nat.succ_mul]; omega
    | some x =>
      have := hm x (List.mem_of_getElem? hx)
      rw [esum_succ hx, Nat.succ_mul]; omega
theorem hi_ok {th : Nat → Int} {f : Nat → OpD} {A : Nat → Ad} {n : Nat} (hA : ∀ i, i < n → (A i).ps.length ≤ 1100000) (hw : ∀ i, i < n → (f i).wf) (hn : n ≤ 100) :
    (hiG th f A n).length ≤ 300 ∧ (∀ e ∈ hiG th f A n, e.a.ps.length ≤ 1100000) ∧ ∀ e ∈ hiG th f A n, i64w e.o.v := by
  refine ⟨by rw [hiG_len]; omega, fun e he => ?_, fun e he => ?_⟩
  · obtain ⟨i, hi, _, h⟩ := hiG_mem he
    rcases h with h | h <;> rw [h]
    · exact Nat.zero_le _
    · exact hA i hi
  · obtain ⟨i, hi, h, _⟩ := hiG_mem he
    rw [h]; exact op_w (hw i hi)
theorem bk_one {H : Type} (d : DataW H) : 1 ≤ Rows.uptoBulk d := by
  cases d with
  | lit l => cases l <;> simp [Rows.uptoBulk]
  | nil => simp [Rows.uptoBulk]
  | ptr d => simp [Rows.uptoBulk]
  | slice elems spare => simp [Rows.uptoBulk]
  | agg parts => simp [Rows.uptoBulk]
  | iface t d => simp [Rows.uptoBulk]
  | map entries => simp [Rows.uptoBulk]
  | held h => simp [Rows.uptoBulk]
theorem bk_len {H : Type} (l : List (DataW H)) : l.length ≤ Rows.uptoBulkAll l := by
  induction l with
  | nil => simp [Rows.uptoBulkAll]
  | cons x r ih => have := bk_one x; simp only [Rows.uptoBulkAll, List.length_cons]; omega
theorem bk_part {H : Type} {d : DataW H} {l : List (DataW H)} (h : d ∈ l) : Rows.uptoBulk d ≤ Rows.uptoBulkAll l := by
  induction l with
  | nil => cases h
  | cons x r ih =>
    simp only [Rows.uptoBulkAll]
    cases List.mem_cons.1 h with
    | inl e => subst e; omega
    | inr e => have := ih e; omega
section
variable {H : Type} {enc : TypeId × Value → H} {w : World} {fuel : Nat} {x : DataW H × List MemPlace}
theorem bk_pairs {a : Option Addr} {len cap : Nat} (h : DataW.trod enc Try.prog w 0 (fun _ => true) true fuel 22 [.slice a len cap] = some x) : len ≤ Rows.uptoBulk x.1 := by
  rcases Go.Deep.open_slice Try.underlying22 h with ⟨hcs, _⟩ | ⟨y, len', cap', m, n, D, Pl, hcs, _, hl, hm, hmm, hx, _⟩
  · simp at hcs
    omega
  · simp at hcs
    obtain ⟨_, rfl, rfl⟩ := hcs
    subst hx
    have h1 := bk_len ((List.range len).map D)
    simp only [List.length_map, List.length_range] at h1
    simp only [Rows.uptoBulk]
    omega
end
set_option maxRecDepth 100000 in
set_option maxHeartbeats 12800000 in
theorem on_nil (sb : Nat) (a : Option Addr) (cap : Nat) (vo mv mpv : Value) (S : Nat → Bool) (w : World) (h : Bq w sb [.slice a 0 cap, vo, mv]) (hc : Cs w a cap []) :
    Calls Try.prog 20 #[.pointer (some ⟨sb, 0, none⟩), mpv, .agg (bitsA S)] w fun e w' => e = .returned (.bool true) ∧ Below w.heap.size w w' := by
  have cw := whole_any sb a cap [] S (w.alloc (.cells (bitsA S) 60)) ((h.keep (pal _)).at_ 0 _ rfl) (hc.keep (pal _)) (by simp) true (by simp [lft])
  have HN1 := Lib.hid (bits_new w S)
  have HB1 := Lib.hid (pal (w := w) (.cells (bitsA S) 60))
  clear h hc
  go_enter Try.func20, Try.ntmps20
  go_wp2_with (first
    | (refine wpList_loadBits rfl _ rfl w.heap.size rfl HN1.out ?_)
    | (go_at_call 29; ((with_reducible refine cw.mono ?_); clear cw; rintro e v1 ⟨rfl, hb⟩; have HB2 := Lib.hid (pb2 HB1.out hb); clear hb))
    | fail)
  go_ret
  exact ⟨rfl, HB2.out⟩
set_option maxRecDepth 100000 in
set_option maxHeartbeats 12800000 in
theorem find_nil (a : Option Addr) (cap : Nat) (m : List Pr) (w : World) (hm : Prs w a cap m) (sm : m.length ≤ 1048576) :
    Calls Try.prog 13 #[.slice a m.length cap, .slice none 0 0] w fun e w' => ∃ (B : Bool) (E : Int) (ao : Option Addr) (n c : Nat), e = .returned (.tuple #[.slice ao n c, .bool B, .int .i64 E]) ∧ Below w.heap.size w w' ∧ (¬ Srt m → B = false ∧ E = 1) := by
  have HM := Lib.hid hm
  have z1 := hm.1
  have z2 := hm.2.1
  unfold maxLen at z2
  have cc := calls_any none 0 [] w (Es.none w) (by simp) (fun e he => by cases he) [] rfl
  have cl := fun W (hb : Below w.heap.size w W) B hB => lmay_any a cap m W (hm.below hb) B hB
  have cp1 := fun W (hb : Below w.heap.size w W) => may_anyP none 0 [] W (Es.none W) (by simp) true rfl
  have hmm := @run_makeMap Try.prog
  unfold CsIs at cc
  simp only [List.length_nil] at cc cp1
  clear hm
  by_cases hs : Srt m
  rotate_left
  · have cl1 := fun W hb => cl W hb false (decide_eq_false hs)
    clear cl hs
    go_enter Try.func13, Try.ntmps13
    go_wp2_with (first
      | (go_at_call 17; ((with_reducible refine cc.mono ?_); clear cc; rintro e v1 ⟨ao, cp2, rfl, hcs, hb1⟩; have HB1 := Lib.hid hb1; clear hb1 hcs))
      | (go_at_call 18; ((with_reducible refine (cl1 _ HB1.out).mono ?_); clear cl1; rintro e v2 ⟨rfl, hb2⟩; have HB2 := Lib.hid (pb2 HB1.out hb2); clear hb2))
      | fail)
    exact bodyPost_ret (v := .tuple #[.slice none 0 0, .bool false, .int .i64 1]) (by simp [results, Try.results13, go_sem]) rfl ⟨false, 1, none, 0, 0, rfl, HB2.out, fun _ => ⟨rfl, rfl⟩⟩
  have cl1 := fun W hb => cl W hb true (decide_eq_true hs)
  have HS := Lib.hid hs
  clear cl hs
  go_enter Try.func13, Try.ntmps13
  go_upto_region 4 with (first
    | (go_at_call 17; ((with_reducible refine cc.mono ?_); clear cc; rintro e v1 ⟨ao, cp2, rfl, hcs, hb1⟩; have HB1 := Lib.hid hb1; have HCS := Lib.hid hcs; have hz1 := hcs.1; have hz2 := hcs.2.1; clear hb1 hcs))
    | (go_at_call 18; ((with_reducible refine (cl1 _ HB1.out).mono ?_); clear cl1; rintro e v2 ⟨rfl, hb2⟩; have HCS2 := Lib.hid (HCS.out.keep hb2); have HB2 := Lib.hid (pb2 HB1.out hb2); clear hb2))
    | (go_at_call 19; ((with_reducible refine (cp1 _ HB2.out).mono ?_); clear cp1; rintro e v3 ⟨rfl, hb3⟩; have HCS3 := Lib.hid (HCS2.out.keep hb3); have HB3 := Lib.hid (pb2 HB2.out hb3); clear hb3))
    | fail)
  have HQ4 := Lib.hid (Bq.new (v3.alloc (.map #[] 0)) #[.slice ao 0 cp2, .slice none 0 0, .map (some v3.heap.size)] 55)
  rw [show (v3.alloc (.map #[] 0)).heap.size = v3.heap.size + 1 by simp] at HQ4
  have HB34 := Lib.hid (pb1 (pal (w := v3) (.map #[] 0)) (.cells #[.slice ao 0 cp2, .slice none 0 0, .map (some v3.heap.size)] 55))
  go_upto_region 5 with (fail)
  generalize (v3.alloc (.map #[] 0)).alloc (.cells #[.slice ao 0 cp2, .slice none 0 0, .map (some v3.heap.size)] 55) = W4 at *
  have cn := fun W hb => new_any a cap m W (HM.out.below hb) (by omega)
  unfold NewIs at cn
  have HB4 := Lib.hid (pb2 HB3.out HB34.out)
  go_wp2_with (first
    | (go_at_call 21; ((with_reducible refine (cn _ HB4.out).mono ?_); clear cn; rintro e v5 ⟨bm, rfl, hbm, hmp, hb5⟩; have HQ5 := Lib.hid (HQ4.out.keep hb5); have HCS5 := Lib.hid (HCS3.out.keep (pb2 HB34.out hb5)); have HB5 := Lib.hid (pb2 HB4.out hb5); clear hbm hmp hb5))
    | (refine wpList_buildT rfl 60 _ rfl (bitsA (fun _ => false)) ?_ ?_; (go_simp; exact built_places))
    | (go_at_call 20; ((with_reducible refine (on_nil _ ao cp2 _ _ _ _ _ HQ5.out HCS5.out).mono ?_); rintro e v6 ⟨rfl, hb6⟩; have HB6 := Lib.hid (pb2 HB5.out hb6); have c1 := (HQ5.out.keep hb6).at_ 1 _ rfl; have hl6 := (HQ5.out.keep hb6).lt; clear hb6))
    | fail)
  exact bodyPost_ret (v := .tuple #[.slice none 0 0, .bool true, .int .i64 0]) (by simp [results, Try.results13, go_sem]) rfl ⟨true, 0, none, 0, 0, rfl, HB6.out, fun h => absurd HS.out h⟩

set_option maxRecDepth 100000 in
set_option maxHeartbeats 51200000 in
theorem walk (a0 : Option Addr) (cap0 : Nat) (z0 : List Pr) (a1 : Int) (w : World) (w0 : Prs w a0 cap0 z0) (r0 : Rng z0) (u0 : z0.length ≤ 1048576) (w1 : (Lit.int .i64 a1).wf = true) :
    Calls Try.prog 4 #[.slice a0 z0.length cap0, .int .i64 a1] w fun e w' => e = .returned (.bool true) ∧ Below w.heap.size w w' := by
  have hz1 := w0.1
  have hz2 := w0.2.1
  unfold maxLen at hz2
  obtain ⟨kn, hk, hum⟩ := umodR a1 24 (by decide) (by decide)
  have hk24 : kn < 24 := by omega
  have hk0 : (0 : Int) ≤ (kn : Int) := Int.natCast_nonneg kn
  have hkI : (kn : Int) < 24 := hk
  have cF := fun W (hb : Below w.heap.size w W) => find_nil a0 cap0 z0 W (w0.below hb) u0
  by_cases hA : z0.length ≤ 30
  rotate_left
  · have h3 : (30 : Int) < (z0.length : Int) := by omega
    have HB1 := Lib.hid (Below.refl w.heap.size w)
    go_enter Try.func4, Try.ntmps4
    go_upto_region 2 with (fail)
    rw [hum]
    clear hum hk hk24 hk0 hkI hA
    go_wp2_with (first
      | (go_at_call 13; ((with_reducible refine (cF _ HB1.out).mono ?_); clear cF; rintro e v2 ⟨B, E, ao, nn, cc, rfl, hb2, hr2⟩; have HB2 := Lib.hid (pb2 HB1.out hb2); have HR2 := Lib.hid hr2; clear hb2 hr2))
      | (go_at_call 10; ((with_reducible refine (lawake_any _).mono ?_); rintro e wa ⟨rfl, hba⟩; have HBa := Lib.hid (pb2 HB2.out hba); clear hba))
      | fail)
    go_ret
    exact ⟨by simp, HBa.out⟩
  have h3 : ¬ (30 : Int) < (z0.length : Int) := by omega
  have cM0 := fun W (hb : Below w.heap.size w W) => rmay_any a0 cap0 z0 W (w0.below hb)
  by_cases hs : Srt z0
  rotate_left
  · have cM := fun W hb => cM0 W hb false (decide_eq_false hs)
    have HNS := Lib.hid hs
    clear cM0 hs
    go_enter Try.func4, Try.ntmps4
    go_upto_region 2 with (fail)
    rw [hum]
    clear hum hk hk24 hk0 hkI hA
    go_wp2_with (first
      | (go_at_call 12; ((with_reducible refine (cM _ (Below.refl _ _)).mono ?_); clear cM; rintro e v1 ⟨rfl, hb1⟩; have HB1 := Lib.hid hb1; clear hb1))
      | (go_at_call 13; ((with_reducible refine (cF _ HB1.out).mono ?_); clear cF; rintro e v2 ⟨B, E, ao, nn, cc, rfl, hb2, hr2⟩; have HB2 := Lib.hid (pb2 HB1.out hb2); obtain ⟨hB2, hE2⟩ := hr2 HNS.out; subst hB2; subst hE2; clear hb2 hr2))
      | (go_at_call 10; ((with_reducible refine (lawake_any _).mono ?_); rintro e wa ⟨rfl, hba⟩; have HBa := Lib.hid (pb2 HB2.out hba); clear hba))
      | fail)
    go_ret
    exact ⟨by simp, HBa.out⟩
  have cM := fun W hb => cM0 W hb true (decide_eq_true hs)
  clear cM0 cF
  obtain ⟨f, hf⟩ : ∃ f : Nat → OpD, f = fun i => ⟨1 + (i : Int) % 8, (i : Int) % 3, 2, (i : Int)⟩ := ⟨_, rfl⟩
  have HFA := Lib.hid (show ∀ n : Nat, f n = ⟨1 + (n : Int) % 8, (n : Int) % 3, 2, (n : Int)⟩ from fun n => by rw [hf])
  have HFW := Lib.hid (show ∀ n, n < 24 → (f n).wf from fun n hn => by rw [hf]; exact ⟨WalkArith.wf_i64 (by dsimp only; omega), WalkArith.wf_i64 (by dsimp only; omega), (show (Lit.int .i64 2).wf = true by decide), WalkArith.wf_i64 (by dsimp only; omega)⟩)
  have HOK := Lib.hid (show ∀ n, okOp (f n).c from fun n => by rw [hf]; dsimp only; unfold okOp; omega)
  have HTH := Lib.hid (show ∀ i : Nat, okT ((i : Int) % 3) from fun i => by unfold okT; omega)
  obtain ⟨R, hR⟩ : ∃ R, R = stN z0 f := ⟨_, rfl⟩
  obtain ⟨A, hAn⟩ : ∃ A, A = anN z0 f := ⟨_, rfl⟩
  have HRL := Lib.hid (show ∀ n, (R n).length ≤ z0.length + n from fun n => by rw [hR]; exact stN_le z0 f n)
  have HAL := Lib.hid (show ∀ n, (A n).ps.length ≤ (R n).length from fun n => by rw [hR, hAn]; exact anN_ps z0 f n)
  have HR0 : Hid (R 0 = z0) := Lib.hid (by rw [hR]; rfl)
  have HRS := Lib.hid (show ∀ n, R (n + 1) = doP (R n) (f n).c (f n).k (f n).v from fun n => by rw [hR]; rfl)
  have HAS := Lib.hid (show ∀ n, A n = doA (R n) (f n).c (f n).k (f n).h from fun n => by rw [hR, hAn]; rfl)
  have HAN := Lib.hid hAn
  have HSR := Lib.hid (show ∀ n, Srt (R n) from fun n => by rw [hR]; exact stN_s hs f n)
  have HS := Lib.hid hs
  have HW0 := Lib.hid w0
  have HRG := Lib.hid (rng_w r0)
  have HUM := Lib.hid hum
  clear hf hR hAn hs w0 r0 hum hk
  go_enter Try.func4, Try.ntmps4
  go_upto_region 2 with (fail)
  rw [HUM.out]
  go_upto_region 6 with (first
    | (go_at_call 12; ((with_reducible refine (cM _ (Below.refl _ _)).mono ?_); clear cM; rintro e v1 ⟨rfl, hb1⟩; have HB1 := Lib.hid hb1; clear hb1))
    | fail)
  go_upto_region 7 with (first
    | (refine wpList_app rfl _ _ rfl (fun j => j < v1.heap.size) (.slice (some ⟨v1.heap.size, 0, none⟩) 0 0) [] z0 rfl (PRow.lit v1) (fun k hk => Nat.lt_of_lt_of_le hk (pal _).size) _ rfl (src_any (HW0.out.below (pb1 HB1.out _))) (by simp; omega) z0.length (by simp) z0 rfl ?_; intro am0 cm0 v2 hm2 hc2 hP2 hO2; have HB2 := Lib.hid (pb2 HB1.out (only_lt (pal _) hO2)); have HP2 := Lib.hid hP2; clear hP2 hO2)
    | fail)
  go_wp2_with (fail)
  have HL0 : Hid (LpH w (R 0) (hiG (fun i => ((i : Nat) : Int) % 3) f A 0) am0 cm0 none 0 0 [] v2) := Lib.hid ⟨ERow.nil _ _, rfl, by rw [HR0.out]; exact HP2.out.sub (fun k _ hk => by simp [Value.ownBlock] at hk), fun k hk => by simp [Value.ownBlock] at hk, HB2.out⟩
  go_loopw [57, 8, 9] (fun i h m wr => ∃ (n : Nat) (am : Option Addr) (cm : Nat) (ah : Option Addr) (ch : Nat) (M : List RE), n ≤ kn ∧ i = .int .i64 n ∧ h = .slice ah (2 * n) ch ∧ m = .slice am (R n).length cm ∧ LpH w (R n) (hiG (fun i => ((i : Nat) : Int) % 3) f A n) am cm ah ch (2 * n) M wr) (fun i _ _ _ => kn - (intOf i).toNat)
  case atStart => exact ⟨0, am0, cm0, none, 0, [], Nat.zero_le _, rfl, rfl, by rw [HR0.out], HL0.out⟩
  case round =>
    clear HL0 HP2 HB1 HB2
    obtain ⟨n, am, cm, ah, ch, M, hn, rfl, rfl, rfl, hlp⟩ := hrel
    have HLP := Lib.hid hlp
    by_cases hlt : n < kn
    · have hn0 : (0 : Int) ≤ (n : Int) := Int.natCast_nonneg n
      have hnI : (n : Int) < (kn : Int) := Int.ofNat_lt.2 hlt
      have h8 : 0 ≤ (n : Int) % 8 ∧ (n : Int) % 8 < 8 := by omega
      have h30 : 0 ≤ (n : Int) % 3 ∧ (n : Int) % 3 < 3 := by omega
      have hb0 := pal (w := wr) (.cells #[.int .i64 (1 + (n : Int) % 8), .int .i64 ((n : Int) % 3), .int .i64 2, .int .i64 (n : Int)] 25)
      have HQ0 := Lib.hid (Bq.new wr #[.int .i64 (1 + (n : Int) % 8), .int .i64 ((n : Int) % 3), .int .i64 2, .int .i64 (n : Int)] 25)
      have HLP0 := Lib.hid (hlp.keep hb0)
      clear hb0 hlp
      have hAN : A n = doA (R n) (1 + (n : Int) % 8) ((n : Int) % 3) 2 := by rw [HAS.out n, HFA.out]
      have hRN : R (n + 1) = doP (R n) (1 + (n : Int) % 8) ((n : Int) % 3) (n : Int) := by rw [HRS.out n, HFA.out]
      have cd := fun W h => rdo_any am cm (R n) (1 + (n : Int) % 8) ((n : Int) % 3) 2 (n : Int) W h (by have := HRL.out n; omega)
      rw [← hAN, ← hRN] at cd
      unfold DoIs Ad.val at cd
      have HAL2 : Hid ((A n).ps.length ≤ 60) := Lib.hid (by have h1 := HAL.out n; have h2 := HRL.out n; omega)
      clear hAN hRN
      obtain ⟨An, hAe⟩ : ∃ An, An = A n := ⟨_, rfl⟩
      rw [← hAe] at cd HAL2
      have HAE := Lib.hid hAe
      clear hAe
      go_upto_region 12 with (first
        | (go_at_call 14; ((with_reducible refine (cd _ (HLP0.out.pr.prs rfl)).mono ?_); clear cd; rintro e v5 ⟨ar, cr, aa, ca, rfl, hp5, ha5, hb5⟩; have HLP2 := Lib.hid ((HLP0.out.keep hb5).keep (pal (w := v5) (.cells #[.int .i64 An.err, .bool An.ok, .int .i64 An.k, .int .i64 An.v, .int .i64 An.n, .slice aa An.ps.length ca] 34))); have HQ2 := Lib.hid (HQ0.out.keep hb5); have HP5 := Lib.hid (hp5.below (pal (w := v5) (.cells #[.int .i64 An.err, .bool An.ok, .int .i64 An.k, .int .i64 An.v, .int .i64 An.n, .slice aa An.ps.length ca] 34))); have HA5 := Lib.hid (ha5.below (pal (w := v5) (.cells #[.int .i64 An.err, .bool An.ok, .int .i64 An.k, .int .i64 An.v, .int .i64 An.n, .slice aa An.ps.length ca] 34))); have p0 := HQ2.out.at_ 0 _ rfl; have p1 := HQ2.out.at_ 1 _ rfl; have p2 := HQ2.out.at_ 2 _ rfl; have p3 := HQ2.out.at_ 3 _ rfl; have hql := HQ2.out.lt; have HV4 := Lib.hid (show ∀ k, (Value.slice ah (2 * n) ch).ownBlock = some k → k < (wr.alloc (.cells #[.int .i64 (1 + (n : Int) % 8), .int .i64 ((n : Int) % 3), .int .i64 2, .int .i64 (n : Int)] 25)).heap.size from fun k hk => (HLP0.out.er.row.lt k hk).2); clear hp5 ha5 hb5))
        | fail)
      have HLP3 := Lib.hid (HLP2.out.keep (pal (w := (v5.alloc (.cells #[.int .i64 An.err, .bool An.ok, .int .i64 An.k, .int .i64 An.v, .int .i64 An.n, .slice aa An.ps.length ca] 34))) (.cells #[.int .i64 ((n : Int) % 3), .bool false, .int .i64 (1 + (n : Int) % 8), .int .i64 ((n : Int) % 3), .int .i64 2, .int .i64 (n : Int), .int .i64 0, .bool false, .int .i64 0, .int .i64 0, .int .i64 0, .slice none 0 0, .int .i64 ((n : Int) % 3), .bool true, .int .i64 (1 + (n : Int) % 8), .int .i64 ((n : Int) % 3), .int .i64 2, .int .i64 (n : Int), .int .i64 An.err, .bool An.ok, .int .i64 An.k, .int .i64 An.v, .int .i64 An.n, .slice aa An.ps.length ca] 36)))
      have HEV := Lib.hid (Bq.new (v5.alloc (.cells #[.int .i64 An.err, .bool An.ok, .int .i64 An.k, .int .i64 An.v, .int .i64 An.n, .slice aa An.ps.length ca] 34)) #[.int .i64 ((n : Int) % 3), .bool false, .int .i64 (1 + (n : Int) % 8), .int .i64 ((n : Int) % 3), .int .i64 2, .int .i64 (n : Int), .int .i64 0, .bool false, .int .i64 0, .int .i64 0, .int .i64 0, .slice none 0 0, .int .i64 ((n : Int) % 3), .bool true, .int .i64 (1 + (n : Int) % 8), .int .i64 ((n : Int) % 3), .int .i64 2, .int .i64 (n : Int), .int .i64 An.err, .bool An.ok, .int .i64 An.k, .int .i64 An.v, .int .i64 An.n, .slice aa An.ps.length ca] 36)
      rw [show (v5.alloc (.cells #[.int .i64 An.err, .bool An.ok, .int .i64 An.k, .int .i64 An.v, .int .i64 An.n, .slice aa An.ps.length ca] 34)).heap.size = v5.heap.size + 1 by simp] at HEV
      have HP6 := Lib.hid (HP5.out.below (pal (w := (v5.alloc (.cells #[.int .i64 An.err, .bool An.ok, .int .i64 An.k, .int .i64 An.v, .int .i64 An.n, .slice aa An.ps.length ca] 34))) (.cells #[.int .i64 ((n : Int) % 3), .bool false, .int .i64 (1 + (n : Int) % 8), .int .i64 ((n : Int) % 3), .int .i64 2, .int .i64 (n : Int), .int .i64 0, .bool false, .int .i64 0, .int .i64 0, .int .i64 0, .slice none 0 0, .int .i64 ((n : Int) % 3), .bool true, .int .i64 (1 + (n : Int) % 8), .int .i64 ((n : Int) % 3), .int .i64 2, .int .i64 (n : Int), .int .i64 An.err, .bool An.ok, .int .i64 An.k, .int .i64 An.v, .int .i64 An.n, .slice aa An.ps.length ca] 36)))
      have HA6 := Lib.hid (HA5.out.below (pal (w := (v5.alloc (.cells #[.int .i64 An.err, .bool An.ok, .int .i64 An.k, .int .i64 An.v, .int .i64 An.n, .slice aa An.ps.length ca] 34))) (.cells #[.int .i64 ((n : Int) % 3), .bool false, .int .i64 (1 + (n : Int) % 8), .int .i64 ((n : Int) % 3), .int .i64 2, .int .i64 (n : Int), .int .i64 0, .bool false, .int .i64 0, .int .i64 0, .int .i64 0, .slice none 0 0, .int .i64 ((n : Int) % 3), .bool true, .int .i64 (1 + (n : Int) % 8), .int .i64 ((n : Int) % 3), .int .i64 2, .int .i64 (n : Int), .int .i64 An.err, .bool An.ok, .int .i64 An.k, .int .i64 An.v, .int .i64 An.n, .slice aa An.ps.length ca] 36)))
      have HPS : Hid (∀ m ∈ [(⟨⟨((n : Int) % 3), false, ⟨(1 + (n : Int) % 8), ((n : Int) % 3), 2, (n : Int)⟩, zAd⟩, none, 0⟩ : RE), ⟨⟨((n : Int) % 3), true, ⟨(1 + (n : Int) % 8), ((n : Int) % 3), 2, (n : Int)⟩, An⟩, aa, ca⟩], Prs ((v5.alloc (.cells #[.int .i64 An.err, .bool An.ok, .int .i64 An.k, .int .i64 An.v, .int .i64 An.n, .slice aa An.ps.length ca] 34)).alloc (.cells #[.int .i64 ((n : Int) % 3), .bool false, .int .i64 (1 + (n : Int) % 8), .int .i64 ((n : Int) % 3), .int .i64 2, .int .i64 (n : Int), .int .i64 0, .bool false, .int .i64 0, .int .i64 0, .int .i64 0, .slice none 0 0, .int .i64 ((n : Int) % 3), .bool true, .int .i64 (1 + (n : Int) % 8), .int .i64 ((n : Int) % 3), .int .i64 2, .int .i64 (n : Int), .int .i64 An.err, .bool An.ok, .int .i64 An.k, .int .i64 An.v, .int .i64 An.n, .slice aa An.ps.length ca] 36)) m.a m.c m.e.a.ps ∧ (m.e.a.ps ≠ [] → ∀ b o sp, m.a = some ⟨b, o, sp⟩ → ¬ (fun _ => False) b ∧ (Value.slice ah (2 * n) ch).ownBlock ≠ some b)) := Lib.hid (fun m hm => by
        rcases List.mem_cons.1 hm with e | hm
        · subst e
          exact ⟨Prs.nil _, fun h => absurd rfl h⟩
        · obtain rfl := List.mem_singleton.1 hm
          refine ⟨HA6.out.prs rfl, fun hne b o sp e => ⟨fun x => x, fun hh => ?_⟩⟩
          exact prow_b HA6.out hne e (HV4.out b hh))
      have hml : M.length = 2 * n := HLP2.out.es.1.symm
      have HL9 := Lib.hid (show M.length + [(⟨⟨((n : Int) % 3), false, ⟨(1 + (n : Int) % 8), ((n : Int) % 3), 2, (n : Int)⟩, zAd⟩, none, 0⟩ : RE), ⟨⟨((n : Int) % 3), true, ⟨(1 + (n : Int) % 8), ((n : Int) % 3), 2, (n : Int)⟩, An⟩, aa, ca⟩].length ≤ 100000 by rw [hml]; simp; omega)
      have HL10 := Lib.hid (show M.length + [(⟨⟨((n : Int) % 3), false, ⟨(1 + (n : Int) % 8), ((n : Int) % 3), 2, (n : Int)⟩, zAd⟩, none, 0⟩ : RE), ⟨⟨((n : Int) % 3), true, ⟨(1 + (n : Int) % 8), ((n : Int) % 3), 2, (n : Int)⟩, An⟩, aa, ca⟩].length = 2 * (n + 1) by rw [hml]; simp; omega)
      clear hml
      go_upto_region 13 with (first
        | (refine wpList_evs rfl _ _ rfl (fun _ => False) (.slice ah (2 * n) ch) M [⟨⟨((n : Int) % 3), false, ⟨(1 + (n : Int) % 8), ((n : Int) % 3), 2, (n : Int)⟩, zAd⟩, none, 0⟩, ⟨⟨((n : Int) % 3), true, ⟨(1 + (n : Int) % 8), ((n : Int) % 3), 2, (n : Int)⟩, An⟩, aa, ca⟩] rfl HLP3.out.er (fun _ h => h.elim) HPS.out _ rfl (src_ev2 HEV.out) HL9.out (2 * (n + 1)) HL10.out ?_; intro ao2 lc2 We h1 h2 hE hO hK; have HNX := Lib.hid (HLP3.out.push HP6.out (fun k hk => HV4.out k hk) hE hO hK); clear h1 h2 hE hO hK)
        | fail)
      clear HLP HLP0 HLP2 HLP3 HQ0 HQ2 HP5 HP6 HA5 HA6 HEV HPS p0 p1 p2 p3
      go_wp2_with (fail)
      go_roundw
      case rel =>
        refine ⟨n + 1, ar, cr, ao2, lc2, M ++ [⟨⟨((n : Int) % 3), false, ⟨(1 + (n : Int) % 8), ((n : Int) % 3), 2, (n : Int)⟩, zAd⟩, none, 0⟩, ⟨⟨((n : Int) % 3), true, ⟨(1 + (n : Int) % 8), ((n : Int) % 3), 2, (n : Int)⟩, An⟩, aa, ca⟩], by omega, by go_num, rfl, rfl, ?_⟩
        have h := HNX.out
        have e : hiG (fun i => ((i : Nat) : Int) % 3) f A (n + 1) = hiG (fun i => ((i : Nat) : Int) % 3) f A n ++ [(⟨⟨((n : Int) % 3), false, ⟨(1 + (n : Int) % 8), ((n : Int) % 3), 2, (n : Int)⟩, zAd⟩, none, 0⟩ : RE).e, (⟨⟨((n : Int) % 3), true, ⟨(1 + (n : Int) % 8), ((n : Int) % 3), 2, (n : Int)⟩, An⟩, aa, ca⟩ : RE).e] := by
          show _ ++ [_, _] = _
          rw [HFA.out, HAE.out]
        rw [e]
        exact h
      case measure => simp [intOf]; omega
    · obtain rfl : n = kn := by omega
      clear hlp
      have hes := HLP.out.es.2
      have hN100 : n ≤ 100 := by omega
      have HPN := Lib.hid (hi_ok (th := fun i => ((i : Nat) : Int) % 3) (f := f) (A := A) (n := n) (fun i _ => by have h1 := HAL.out i; have h2 := HRL.out i; omega) (fun i hi => HFW.out i (by omega)) hN100)
      have HER := Lib.hid (show ∀ i, i < n → (A i).err = 0 from fun i hi => by rw [HAS.out]; exact doA_err (HSR.out i) (HOK.out i) _ _)
      have HOF := Lib.hid (hiG_okF (A := A) HS.out HTH.out n (fun i _ => HOK.out i))
      have HOR := Lib.hid (hiG_ord (A := A) HS.out HTH.out n (fun i _ => HOK.out i) HER.out)
      have HMT := Lib.hid (hiG_is (f := f) (A := A) HTH.out n (fun i _ => HOK.out i))
      have cf := fun W (hb : Below wr.heap.size wr W) => find_any a0 ah cap0 ch z0 _ W (HW0.out.below (pb2 HLP.out.be hb)) (hes.keep hb) (by omega) HPN.out.1 HPN.out.2.1 HRG.out HPN.out.2.2
      unfold FdIs at cf
      simp only [hiG_len] at cf
      clear hes
      by_cases h16 : n ≤ 16
      rotate_left
      · have h16i : (16 : Int) < (n : Int) := by omega
        have HNO : Hid (¬ okF z0 (hiG (fun i => ((i : Nat) : Int) % 3) f A n)) := Lib.hid (fun h => h16 (HOF.out.1 h))
        clear h16
        go_wp2_with (first
          | (go_at_call 13; ((with_reducible refine (cf _ (Below.refl _ _)).mono ?_); clear cf; rintro e v6 ⟨B, E, ao, c, l, rfl, hb6, h1, h2, h5, h6, h7⟩; obtain ⟨hE2, hB2⟩ := h2 HNO.out; subst hE2; subst hB2; obtain ⟨ha2, hc2, hl2⟩ := h7 rfl; subst ha2; subst hc2; subst hl2; have HB6 := Lib.hid (pb2 HLP.out.be hb6); clear hb6 h1 h2 h5 h6 h7))
          | (go_at_call 10; ((with_reducible refine (lawake_any _).mono ?_); rintro e wa ⟨rfl, hba⟩; have HBa := Lib.hid (pb2 HB6.out hba); clear hba))
          | fail)
        go_ret
        exact ⟨by simp, HBa.out⟩
      have h16i : ¬ (16 : Int) < (n : Int) := by omega
      have HYE := Lib.hid (HOF.out.2 h16)
      clear h16
      go_upto_region 20 with (first
        | (go_at_call 13; ((with_reducible refine (cf _ (Below.refl _ _)).mono ?_); clear cf; rintro e v6 ⟨B, E, ao, c, l, rfl, hb6, h1, h2, h5, h6, h7⟩; obtain rfl : E = 0 := h1 HYE.out; obtain rfl : B = true := (h5 HYE.out).2 ⟨_, HOR.out.1.2 (fun i hi => by rw [HAN.out])⟩; obtain ⟨ho6, hn6⟩ := h6 rfl; obtain rfl := HOR.out.2 l ho6; have HB6 := Lib.hid (pb2 HLP.out.be hb6); have HLP6 := Lib.hid (HLP.out.keep hb6); have HNU := Lib.hid hn6; rw [upTo_len]; clear hb6 h1 h2 h5 h6 h7 ho6 hn6))
        | fail)
      rw [upTo_len] at HNU
      obtain ⟨NB, hNB⟩ : ∃ NB, NB = hiG (fun i => ((i : Nat) : Int) % 3) f A n ++ [(⟨0, true, zOp, zAd⟩ : EvD)] := ⟨_, rfl⟩
      have hNBl : NB.length = 2 * n + 1 := by rw [hNB, List.length_append, hiG_len]; rfl
      have HNBN : Hid (¬ okF z0 NB) := Lib.hid (fun h => by
        obtain ⟨_, s, h1, _⟩ := h
        have h2 := snoc_ret HMT.out (t := 0) (o := zOp) (a := zAd) (by decide)
        rw [if_neg (fun x => by have := x.1; rw [zeros_x (by decide)] at this; exact absurd this (Nat.lt_irrefl _)), ← hNB, h1] at h2
        cases h2)
      have hNBp : ∀ e ∈ NB, e.a.ps.length ≤ 1100000 := fun e he => by
        rw [hNB] at he
        rcases List.mem_append.1 he with h | h
        · exact HPN.out.2.1 e h
        · rw [List.mem_singleton.1 h]; exact Nat.zero_le _
      have hNBw : ∀ e ∈ NB, i64w e.o.v := fun e he => by
        rw [hNB] at he
        rcases List.mem_append.1 he with h | h
        · exact HPN.out.2.2 e h
        · rw [List.mem_singleton.1 h]; show i64w 0; unfold i64w; decide
      have cf2 := fun W ao lc (hE : Es W ao lc NB) (hb : Below w.heap.size w W) => find_any a0 ao cap0 lc z0 NB W (HW0.out.below hb) hE (by omega) (by omega) hNBp HRG.out hNBw
      unfold FdIs at cf2
      rw [hNBl] at cf2
      have HNBE := Lib.hid hNB
      have HML6 : M.length = 2 * n := HLP6.out.es.1.symm
      clear hNB hNBl hNBp hNBw
      go_wp2_with (fail)
      go_loopw [124] (fun i wx => ∃ j : Nat, j ≤ n ∧ i = .int .i64 j ∧ wx = v6) (fun i _ => n - (intOf i).toNat)
      case atStart => exact ⟨0, Nat.zero_le _, rfl, by trivial⟩
      case round =>
        obtain ⟨j, hj, rfl, hwx⟩ := hrel
        replace hwx := hwx.symm
        subst hwx
        by_cases hjl : j < n
        · have hj0 : (0 : Int) ≤ (j : Int) := Int.natCast_nonneg j
          have hjI : (j : Int) < (n : Int) := Int.ofNat_lt.2 hjl
          obtain ⟨gl, rfl, _, hcl⟩ := HNU.out.at (i := j) (x := (j : Int)) (by unfold upTo; rw [List.getElem?_map, List.getElem?_range hjl]; rfl)
          obtain ⟨_, _, hce, hc5, hc6⟩ := HNU.out.form
          simp only [Value.slice.injEq] at hce
          obtain ⟨-, -, rfl⟩ := hce
          rw [upTo_len] at hc5
          unfold maxLen at hc6
          go_wp2_with (fail)
          go_roundw
          case rel => exact ⟨j + 1, by omega, by go_num, by trivial⟩
          case measure => simp [intOf]; omega
        · obtain rfl : j = n := by omega
          have HER6 := Lib.hid (HLP6.out.er.keep (pal (w := v6) (.cells #[.int .i64 0, .bool true, .int .i64 0, .int .i64 0, .int .i64 0, .int .i64 0, .int .i64 0, .bool false, .int .i64 0, .int .i64 0, .int .i64 0, .slice none 0 0] 36)))
          have HBE6 := Lib.hid (pb1 HLP6.out.be (.cells #[.int .i64 0, .bool true, .int .i64 0, .int .i64 0, .int .i64 0, .int .i64 0, .int .i64 0, .bool false, .int .i64 0, .int .i64 0, .int .i64 0, .slice none 0 0] 36))
          have HEV6 := Lib.hid (Bq.new v6 #[.int .i64 0, .bool true, .int .i64 0, .int .i64 0, .int .i64 0, .int .i64 0, .int .i64 0, .bool false, .int .i64 0, .int .i64 0, .int .i64 0, .slice none 0 0] 36)
          go_wp2_with (first
            | (refine wpList_evs rfl _ _ rfl (fun _ => False) (.slice ah (2 * j) ch) M [⟨⟨0, true, zOp, zAd⟩, none, 0⟩] rfl HER6.out (fun _ h => h.elim) (fun m hm => by rw [List.mem_singleton.1 hm]; exact ⟨Prs.nil _, fun h => absurd rfl h⟩) _ rfl (src_ev HEV6.out) (by rw [HML6]; simp; omega) (2 * j + 1) (by rw [HML6]; rfl) ?_; intro ao7 lc7 v7 hm7 hc7 hE7 hO7 hK7; have HB7 := Lib.hid (HBE6.out.trans (hO7.below HLP6.out.ow HBE6.out.size)); have he7 := hE7.ns.2; rw [List.map_append, HLP6.out.em, List.map_cons, List.map_nil, ← HNBE.out] at he7; have HE7 := Lib.hid he7; clear hE7 hO7 hK7 he7)
            | (go_at_call 13; ((with_reducible refine (cf2 _ _ _ HE7.out HB7.out).mono ?_); clear cf2; rintro e v8 ⟨B, E, ao8, c8, l8, rfl, hb8, h1, h2, h5, h6, h7⟩; obtain ⟨hE2, hB2⟩ := h2 HNBN.out; subst hE2; subst hB2; have HB8 := Lib.hid (pb2 HB7.out hb8); clear hb8 h1 h2 h5 h6 h7))
            | (go_at_call 10; ((with_reducible refine (lawake_any _).mono ?_); rintro e wa ⟨rfl, hba⟩; have HBa := Lib.hid (pb2 HB8.out hba); clear hba))
            | fail)
          go_ret
          exact ⟨by simp, HBa.out⟩

set_option maxRecDepth 100000 in
theorem lifted (os : Os) (started : os.Started) (H : Type) (enc : TypeId × Value → H) (F : Stop.Interp) :
    ReturnsInHanded {} Try.checked os 4 .any ((Rows.OpenSpec.upto Rows.linManySpec).pre6 enc Try.prog Try.f4 Rows.linManyUptoRow.domain false) (((Rows.OpenSpec.upto Rows.linManySpec).at F).post enc Try.prog Try.f4 false true false false) := by
  refine returnsInHanded_of_cond_sized (C := Try.checked) (s := (Rows.OpenSpec.upto Rows.linManySpec)) (k := Rows.uptoSmall) rfl own started (by kernel_rfl) Try.func4
    (OpenSpec.witness (enc := enc) (C := Try.checked) (s := (Rows.OpenSpec.upto Rows.linManySpec)) (k := Rows.uptoSmall) rfl false ⟨#[], #[.slice none 0 0, .int .i64 0], []⟩ 8 (by kernel_rfl) (by kernel_rfl) (by kernel_rfl)
      (x := ([.nil, .lit (.int .i64 0)], [], [])) (by kernel_rfl) rfl (by kernel_rfl)) ?_
  intro W base args ds gs before hval0 hW hcnd hk hsz _
  have hval : ∀ (j : Nat) t v, Try.f4.params[j]? = some t → args[j]? = some v → Value.okWide Try.prog W .any base t v := hval0
  have hW' := hW
  obtain ⟨p, q, hA0, hV, rfl, hfz, hnd⟩ := hW
  have hA : DataW.TrodAll enc Try.prog W 0 (fun _ => true) true Try.f4.params.toList args.toList ds p := hA0
  rw [Try.params4] at hA hval
  obtain ⟨v0, vs0, d0, ds0, p0, q0, hargs, rfl, rfl, h0, r0⟩ := trodAll_cons hA
  obtain ⟨v1, vs1, d1, ds1, p1, q1, rfl, rfl, rfl, h1, r1⟩ := trodAll_cons r0
  obtain ⟨rfl, rfl, rfl⟩ := trodAll_nil r1
  obtain rfl : args = #[v0, v1] := by cases args; simp_all
  obtain ⟨rfl, rfl⟩ := trodVars_none hV
  have k0 := h0
  have lt0 : ∀ x ∈ p0, x.block < W.heap.size := by obtain ⟨m, hm⟩ := k0; exact DataW.trod_lt m _ _ _ hm
  obtain ⟨b0, l0, c0, rfl⟩ := okWide_slice Try.underlying22 (hval 0 22 v0 rfl rfl)
  obtain ⟨a0, cap0, z0, e0, w0, g0⟩ := open_pairsw (enc := enc) (w := W) (v := .slice b0 l0 c0) (fuel := h0.choose) (by simpa [Value.cells] using h0.choose_spec)
  rw [e0] at hval k0 h0 hW' hval0 hA0
  have u0 : z0.length ≤ 1048576 := Nat.le_trans (bk_pairs (enc := enc) (w := W) (fuel := h0.choose) (a := a0) (len := z0.length) (cap := cap0) (by simpa [Value.cells] using h0.choose_spec)) (Nat.le_trans (bk_part (by simp)) (of_decide_eq_true hk))
  have k1 := h1
  have lt1 : ∀ x ∈ p1, x.block < W.heap.size := by obtain ⟨m, hm⟩ := k1; exact DataW.trod_lt m _ _ _ hm
  obtain ⟨a1, rfl, rfl, rfl, w1⟩ := open_int Try.underlying3 (hval 1 3 v1 rfl rfl) h1
  clear hA0 hval0
  rw [e0]; refine (walk a0 cap0 z0 a1 W w0 g0 u0 w1).mono fun e W' ⟨he, bel⟩ => ?_
  subst he
  exact ⟨_, rfl, _, _, _, [], _, [], hW', trodAll_mk1 (shut_bool Try.underlying4 _), (trodAll_cons_mk (Below.trod laidOut (by kernel_rfl) (of_decide_eq_true (by kernel_rfl)) k0 bel lt0) (trodAll_cons_mk (Below.trod laidOut (by kernel_rfl) (of_decide_eq_true (by kernel_rfl)) k1 bel lt1) trodAll_mk0)), rfl, bel.frame _, fun h => by cases h⟩

theorem over : Rows.linManyUptoRow.holds Try.pinned (Rows.OpenSpec.upto Rows.linManySpec) :=
  OpenClaim.holds_of_cond 4 Try.f4 rfl rfl rfl rfl rfl rfl rfl ⟨rfl, rfl, rfl, rfl, rfl⟩ rfl rfl rfl rfl rfl (by kernel_rfl) Try.func4 (by kernel_rfl)
    (of_decide_eq_true (by kernel_rfl)) (by unfold Func.isWrapper; first | (rw [if_pos (by decide +kernel)]; kernel_rfl) | (rw [if_neg (by decide +kernel)]; exact ⟨rfl, rfl⟩))
    (fun os started H enc _ F => lifted os started H enc F)

theorem linManyHolds : Rows.LinManyUptoSaid := over
#print axioms linManyHolds
end Go.Proofs.Ytadfnbmogobopaa.linMany
