/- Calls one after the other that were told what one map tells have an order; with one answer turned they have none. No condition. -/
import Derived.Test.YtadfnbmogobopaaRows
import Derived.Test.YtadfnbmogobopaaLiH
import Derived.Test.YtadfnbmogobopaaOrI
import Derived.LoopTactic
import Derived.WalkKit
import Derived.ProofKit
import Derived.OpenShut
import Derived.ChangeOld
import Derived.Below
namespace Go.Proofs.Ytadfnbmogobopaa.linWrong
open Go.ChangeShapes Go.WideShapes Go.ChangeAt Go.RowKit
set_option linter.all false

theorem own : ownKnob Try.prog.godebug = none := by kernel_rfl
theorem laidOut : laidOutB Try.prog = true := by kernel_rfl

theorem xorI (s a : Int) : bits .xor .i64 s a = IntKind.i64.wrap (((BitVec.ofInt 64 s) ^^^ (BitVec.ofInt 64 a)).toNat : Int) := rfl
theorem ofInt_wrap (Z : BitVec 64) : BitVec.ofInt 64 (IntKind.i64.wrap (Z.toNat : Int)) = Z := by
  apply BitVec.eq_of_toNat_eq
  rw [BitVec.toNat_ofInt, IntKind.wrap_i64]
  have := Z.isLt
  simp only [Nat.reducePow] at *
  omega
theorem xor_self0 (s a : Int) (hs : -9223372036854775808 ≤ s ∧ s ≤ 9223372036854775807) (ha : -9223372036854775808 ≤ a ∧ a ≤ 9223372036854775807) : (bits .xor .i64 s a == s) = (a == 0) := by
  by_cases h0 : a = 0
  · subst h0
    have e : bits .xor .i64 s 0 = s := by
      rw [xorI, show BitVec.ofInt 64 0 = 0#64 from rfl, BitVec.xor_zero, BitVec.toNat_ofInt, IntKind.wrap_i64]
      simp only [Nat.reducePow]
      omega
    rw [e]
    simp
  · rw [show (a == 0) = false by simp [h0], beq_eq_false_iff_ne]
    intro e
    rw [xorI] at e
    have e2 := congrArg (BitVec.ofInt 64) e
    rw [ofInt_wrap] at e2
    have e3 : BitVec.ofInt 64 a = 0#64 := by
      have := congrArg (fun z => BitVec.ofInt 64 s ^^^ z) e2
      simp only [← BitVec.xor_assoc, BitVec.xor_self, BitVec.zero_xor] at this
      exact this
    have e4 := congrArg BitVec.toNat e3
    rw [BitVec.toNat_ofInt] at e4
    simp only [Nat.reducePow] at e4
    have e5 : (0#64).toNat = 0 := rfl
    omega
theorem doA_n (l : List Pr) (c k h : Int) : 0 ≤ (doA l c k h).n ∧ (doA l c k h).n ≤ (l.length : Int) := by
  have hr : (rngL l k h).length ≤ l.length := by unfold rngL; exact List.length_filter_le _ _
  unfold doA
  split
  · exact ⟨Int.le_refl _, Int.natCast_nonneg _⟩
  split
  · exact ⟨Int.le_refl _, Int.natCast_nonneg _⟩
  split
  · exact ⟨Int.natCast_nonneg _, Int.ofNat_le.2 hr⟩
  split
  · exact ⟨Int.natCast_nonneg _, Int.ofNat_le.2 hr⟩
  split
  · cases l[0]? <;> exact ⟨Int.le_refl _, Int.natCast_nonneg _⟩
  · cases l[l.length - 1]? <;> exact ⟨Int.le_refl _, Int.natCast_nonneg _⟩
theorem hiG_congr {th : Nat → Int} {f : Nat → OpD} {A B : Nat → Ad} : ∀ n, (∀ i, i < n → A i = B i) → hiG th f A n = hiG th f B n
  | 0, _ => rfl
  | n + 1, h => by simp only [hiG]; rw [hiG_congr n (fun i hi => h i (by omega)), h n (by omega)]
theorem hiG_set {th : Nat → Int} {f : Nat → OpD} {A : Nat → Ad} (a : Ad) {k : Nat} : ∀ {n : Nat}, k < n → (hiG th f A n).set (2 * k + 1) ⟨th k, true, f k, a⟩ = hiG th f (fun i => if i = k then a else A i) n
  | 0, h => by omega
  | n + 1, h => by
    simp only [hiG]
    by_cases e : k = n
    · subst e
      rw [List.set_append_right _ _ (by rw [hiG_len]; omega), hiG_len, show 2 * k + 1 - 2 * k = 1 by omega, if_pos rfl]
      rw [hiG_congr (B := fun i => if i = k then a else A i) k (fun i hi => by rw [if_neg (by omega)])]
      rfl
    · rw [List.set_append_left _ _ (by rw [hiG_len]; omega), hiG_set a (n := n) (by omega), if_neg (fun x => e x.symm)]
theorem hiG_get {th : Nat → Int} {f : Nat → OpD} {A : Nat → Ad} {k : Nat} : ∀ {n : Nat}, k < n → (hiG th f A n)[2 * k + 1]? = some ⟨th k, true, f k, A k⟩
  | 0, h => by omega
  | n + 1, h => by
    simp only [hiG]
    by_cases e : k = n
    · subst e
      rw [List.getElem?_append_right (by rw [hiG_len]; omega), hiG_len, show 2 * k + 1 - 2 * k = 1 by omega]
      rfl
    · rw [List.getElem?_append_left (by rw [hiG_len]; omega)]
      exact hiG_get (n := n) (by omega)
section
variable {W : World} {Q : Nat → Prop} {g n cap i : Nat} {M : List RE} {m : RE}
theorem erow_turnN (h : ERow W Q (.slice (some ⟨g, 0, none⟩) n cap) M) (hm : M[i]? = some m) (X : Int) :
    ERow (W.setCell ⟨g, i * 12 + 10, none⟩ (.int .i64 X)) Q (.slice (some ⟨g, 0, none⟩) n cap) (M.set i ⟨⟨m.e.t, m.e.r, m.e.o, { m.e.a with n := X }⟩, m.a, m.c⟩) := by
  have hp := h.prs m (List.mem_of_getElem? hm)
  exact h.cell hm ⟨⟨m.e.t, m.e.r, m.e.o, { m.e.a with n := X }⟩, m.a, m.c⟩ 10 _ (by decide) (by obtain ⟨⟨t, r, ⟨oc, ok, oh, ov⟩, ⟨ae, ao, ak, av, an, ap⟩⟩, pa, pc⟩ := m; rfl) hp.1 (fun hne b o sp e => ⟨(hp.2 hne b o sp e).1, fun x => (hp.2 hne b o sp e).2 (by rw [← x]; rfl)⟩)
theorem erow_turnK (h : ERow W Q (.slice (some ⟨g, 0, none⟩) n cap) M) (hm : M[i]? = some m) (X : Bool) :
    ERow (W.setCell ⟨g, i * 12 + 7, none⟩ (.bool X)) Q (.slice (some ⟨g, 0, none⟩) n cap) (M.set i ⟨⟨m.e.t, m.e.r, m.e.o, { m.e.a with ok := X }⟩, m.a, m.c⟩) := by
  have hp := h.prs m (List.mem_of_getElem? hm)
  exact h.cell hm ⟨⟨m.e.t, m.e.r, m.e.o, { m.e.a with ok := X }⟩, m.a, m.c⟩ 7 _ (by decide) (by obtain ⟨⟨t, r, ⟨oc, ok, oh, ov⟩, ⟨ae, ao, ak, av, an, ap⟩⟩, pa, pc⟩ := m; rfl) hp.1 (fun hne b o sp e => ⟨(hp.2 hne b o sp e).1, fun x => (hp.2 hne b o sp e).2 (by rw [← x]; rfl)⟩)
end
theorem esum_bd {N : List EvD} {B : Nat} (hm : ∀ e ∈ N, e.a.ps.length ≤ B) : ∀ n, esum N n ≤ n * B := by
  intro n
  induction n with
  | zero => simp [esum]
  | succ n ih =>
    cases hx : N[n]? with
    | none =>
      have : N.length ≤ n := List.getElem?_eq_none_iff.1 hx
      have e : esum N (n + 1) = esum N n := by unfold esum; rw [List.take_of_length_le (by omega), List.take_of_length_le (by omega)]
      rw [e, Nat.succ_mul]; omega
    | some x =>
      have := hm x (List.mem_of_getElem? hx)
      rw [esum_succ hx, Nat.succ_mul]; omega
theorem hi_ok {th : Nat → Int} {f : Nat → OpD} {A : Nat → Ad} {n : Nat} (hA : ∀ i, i < n → (A i).ps.length ≤ 1100000) (hw : ∀ i, i < n → (f i).wf) (hn : n ≤ 100) :
    (hiG th f A n).length ≤ 300 ∧ (∀ e ∈ hiG th f A n, e.a.ps.length ≤ 1100000) ∧ ∀ e ∈ hiG th f A n, i64w e.o.v := by
  refine ⟨by rw [hiG_len]; omega, fun e he => ?_, fun e he => ?_⟩
  · obtain ⟨i, hi, _, h⟩ := hiG_mem he
    rcases h with h | h <;> rw [h]
    · exact Nat.zero_le _
    · exact hA i hi
  · obtain ⟨i, hi, h, _⟩ := hiG_mem he
    rw [h]; exact op_w (hw i hi)

set_option maxRecDepth 100000 in
set_option maxHeartbeats 51200000 in
theorem walk (a0 : Option Addr) (cap0 : Nat) (z0 : List Pr) (a1 : Option Addr) (cap1 : Nat) (z1 : List OpD) (a2 : Int) (a3 : Int) (w : World) (w0 : Prs w a0 cap0 z0) (r0 : Rng z0) (w1 : Ops w a1 cap1 z1) (w2 : (Lit.int .i64 a2).wf = true) (w3 : (Lit.int .i64 a3).wf = true) :
    Calls Try.prog 5 #[.slice a0 z0.length cap0, .slice a1 z1.length cap1, .int .i64 a2, .int .i64 a3] w fun e w' => e = .returned (.bool true) ∧ Below w.heap.size w w' := by
  have hz1 := w0.1
  have hz2 := w0.2.1
  have hz3 := w1.1
  have hz4 := w1.2.1
  unfold maxLen at hz2 hz4
  by_cases hA : z0.length ≤ 20
  rotate_left
  · have h3 : (20 : Int) < (z0.length : Int) := by omega
    clear hA
    go_enter Try.func5, Try.ntmps5
    go_wp2_with (first
      | (go_at_call 10; ((with_reducible refine (lawake_any _).mono ?_); rintro e wa ⟨rfl, hba⟩; have HBa := Lib.hid (pb2 (Below.refl _ _) hba); clear hba))
      | fail)
    go_ret
    exact ⟨by simp, HBa.out⟩
  have h3 : ¬ (20 : Int) < (z0.length : Int) := by omega
  have cM0 := fun W (hb : Below w.heap.size w W) => rmay_any a0 cap0 z0 W (w0.below hb)
  by_cases hs : Srt z0
  rotate_left
  · have cM := fun W hb => cM0 W hb false (decide_eq_false hs)
    clear cM0 hs hA
    go_enter Try.func5, Try.ntmps5
    go_wp2_with (first
      | (go_at_call 12; ((with_reducible refine (cM _ (Below.refl _ _)).mono ?_); clear cM; rintro e v1 ⟨rfl, hb1⟩; have HB1 := Lib.hid hb1; clear hb1))
      | (go_at_call 10; ((with_reducible refine (lawake_any _).mono ?_); rintro e wa ⟨rfl, hba⟩; have HBa := Lib.hid (pb2 HB1.out hba); clear hba))
      | fail)
    go_ret
    exact ⟨by simp, HBa.out⟩
  have cM := fun W hb => cM0 W hb true (decide_eq_true hs)
  clear cM0
  by_cases hL1 : 1 ≤ z1.length
  rotate_left
  · have h4 : (z1.length : Int) < 1 := by omega
    have h4n : z1.length < 1 := by omega
    have h4z : z1.length = 0 := by omega
    clear hs hA hL1
    go_enter Try.func5, Try.ntmps5
    go_wp2_with (first
      | (go_at_call 12; ((with_reducible refine (cM _ (Below.refl _ _)).mono ?_); clear cM; rintro e v1 ⟨rfl, hb1⟩; have HB1 := Lib.hid hb1; clear hb1))
      | (go_at_call 10; ((with_reducible refine (lawake_any _).mono ?_); rintro e wa ⟨rfl, hba⟩; have HBa := Lib.hid (pb2 HB1.out hba); clear hba))
      | fail)
    go_ret
    exact ⟨by simp, HBa.out⟩
  have h4 : ¬ (z1.length : Int) < 1 := by omega
  by_cases hL2 : z1.length ≤ 8
  rotate_left
  · have h5 : (8 : Int) < (z1.length : Int) := by omega
    clear hs hA hL2
    go_enter Try.func5, Try.ntmps5
    go_wp2_with (first
      | (go_at_call 12; ((with_reducible refine (cM _ (Below.refl _ _)).mono ?_); clear cM; rintro e v1 ⟨rfl, hb1⟩; have HB1 := Lib.hid hb1; clear hb1))
      | (go_at_call 10; ((with_reducible refine (lawake_any _).mono ?_); rintro e wa ⟨rfl, hba⟩; have HBa := Lib.hid (pb2 HB1.out hba); clear hba))
      | fail)
    go_ret
    exact ⟨by simp, HBa.out⟩
  have h5 : ¬ (8 : Int) < (z1.length : Int) := by omega
  by_cases hby : a3 = 0
  · subst hby
    clear hs hA
    go_enter Try.func5, Try.ntmps5
    go_wp2_with (first
      | (go_at_call 12; ((with_reducible refine (cM _ (Below.refl _ _)).mono ?_); clear cM; rintro e v1 ⟨rfl, hb1⟩; have HB1 := Lib.hid hb1; clear hb1))
      | (go_at_call 10; ((with_reducible refine (lawake_any _).mono ?_); rintro e wa ⟨rfl, hba⟩; have HBa := Lib.hid (pb2 HB1.out hba); clear hba))
      | fail)
    go_ret
    exact ⟨by simp, HBa.out⟩
  have hby2 : (a3 == 0) = false := by simp [hby]
  obtain ⟨f, hf⟩ : ∃ f : Nat → OpD, f = fun i => z1.getD i zOp := ⟨_, rfl⟩
  have HFA := Lib.hid (show ∀ n q, z1[n]? = some q → f n = q from fun n q hq => by rw [hf]; show z1.getD n zOp = q; rw [List.getD_eq_getElem?_getD, hq]; rfl)
  have HFW := Lib.hid (show ∀ n, n < z1.length → (f n).wf from fun n hn => by rw [hf]; show (z1.getD n zOp).wf; rw [List.getD_eq_getElem?_getD, List.getElem?_eq_getElem hn]; exact w1.2.2.2 _ (List.getElem_mem hn))
  obtain ⟨R, hR⟩ : ∃ R, R = stN z0 f := ⟨_, rfl⟩
  obtain ⟨A, hAn⟩ : ∃ A, A = anN z0 f := ⟨_, rfl⟩
  have HRL := Lib.hid (show ∀ n, (R n).length ≤ z0.length + n from fun n => by rw [hR]; exact stN_le z0 f n)
  have HAL := Lib.hid (show ∀ n, (A n).ps.length ≤ (R n).length from fun n => by rw [hR, hAn]; exact anN_ps z0 f n)
  have HR0 : Hid (R 0 = z0) := Lib.hid (by rw [hR]; rfl)
  have HRS := Lib.hid (show ∀ n, R (n + 1) = doP (R n) (f n).c (f n).k (f n).v from fun n => by rw [hR]; rfl)
  have HAS := Lib.hid (show ∀ n, A n = doA (R n) (f n).c (f n).k (f n).h from fun n => by rw [hR, hAn]; rfl)
  have HAN := Lib.hid hAn
  have HSR := Lib.hid (show ∀ n, Srt (R n) from fun n => by rw [hR]; exact stN_s hs f n)
  have HAN2 := Lib.hid (show ∀ n, 0 ≤ (A n).n ∧ (A n).n ≤ ((R n).length : Int) from fun n => by rw [hR, hAn]; exact doA_n _ _ _ _)
  have HS := Lib.hid hs
  have HW := Lib.hid w1
  have HW0 := Lib.hid w0
  have HRG := Lib.hid (rng_w r0)
  have hRA := HRL.out
  clear hf hR hAn hs w1 w0 r0 hRA
  go_enter Try.func5, Try.ntmps5
  go_upto_region 3 with (first
    | (go_at_call 12; ((with_reducible refine (cM _ (Below.refl _ _)).mono ?_); clear cM; rintro e v1 ⟨rfl, hb1⟩; have HB1 := Lib.hid hb1; clear hb1))
    | fail)
  go_upto_region 4 with (first
    | (refine wpList_app rfl _ _ rfl (fun j => j < v1.heap.size) (.slice (some ⟨v1.heap.size, 0, none⟩) 0 0) [] z0 rfl (PRow.lit v1) (fun k hk => Nat.lt_of_lt_of_le hk (pal _).size) _ rfl (src_any (HW0.out.below (pb1 HB1.out _))) (by simp; omega) z0.length (by simp) z0 rfl ?_; intro am0 cm0 v2 hm2 hc2 hP2 hO2; have HB2 := Lib.hid (pb2 HB1.out (only_lt (pal _) hO2)); have HP2 := Lib.hid hP2; clear hP2 hO2)
    | fail)
  go_wp2_with (fail)
  have HL0 : Hid (LpH w (R 0) (hiG (fun i => ((i : Nat) : Int) % 3) f A 0) am0 cm0 none 0 0 [] v2) := Lib.hid ⟨ERow.nil _ _, rfl, by rw [HR0.out]; exact HP2.out.sub (fun k _ hk => by simp [Value.ownBlock] at hk), fun k hk => by simp [Value.ownBlock] at hk, HB2.out⟩
  go_loopw [45, 9, 10] (fun i m h wr => ∃ (n : Nat) (am : Option Addr) (cm : Nat) (ah : Option Addr) (ch : Nat) (M : List RE), n ≤ z1.length ∧ i = .int .i64 n ∧ m = .slice am (R n).length cm ∧ h = .slice ah (2 * n) ch ∧ (∀ i, i < n → okOp (f i).c) ∧ LpH w (R n) (hiG (fun i => ((i : Nat) : Int) % 3) f A n) am cm ah ch (2 * n) M wr) (fun i _ _ _ => z1.length - (intOf i).toNat)
  case atStart => exact ⟨0, am0, cm0, none, 0, [], Nat.zero_le _, rfl, by rw [HR0.out], rfl, fun i hi => by omega, HL0.out⟩
  case round =>
    clear HL0 HP2 HB1 HB2
    obtain ⟨n, am, cm, ah, ch, M, hn, rfl, rfl, rfl, hok, hlp⟩ := hrel
    have HOK := Lib.hid hok
    have HLP := Lib.hid hlp
    by_cases hlt : n < z1.length
    · obtain ⟨q, hq⟩ : ∃ q, z1[n]? = some q := ⟨_, List.getElem?_eq_getElem hlt⟩
      obtain ⟨bb, oo, rfl, c0, c1, c2, c3⟩ := (HW.out.below hlp.be).2.2.1 n q hq
      have hn0 : (0 : Int) ≤ (n : Int) := Int.natCast_nonneg n
      have hnI : (n : Int) < (z1.length : Int) := Int.ofNat_lt.2 hlt
      have HFN := Lib.hid (HFA.out n q hq)
      obtain ⟨oc, ok, oh, ov⟩ := q
      dsimp only at c0 c1 c2 c3
      have hb0 := pal (w := wr) (.cells #[.int .i64 oc, .int .i64 ok, .int .i64 oh, .int .i64 ov] 25)
      have HQ0 := Lib.hid (Bq.new wr #[.int .i64 oc, .int .i64 ok, .int .i64 oh, .int .i64 ov] 25)
      have HLP0 := Lib.hid (hlp.keep hb0)
      clear hq hb0 hok hlp
      by_cases hop : okOp oc
      rotate_left
      · have cMo := fun W => rmayop_any oc ok oh ov W false (decide_eq_false hop)
        go_wp2_with (first
          | (go_at_call 11; ((with_reducible refine (cMo _).mono ?_); clear cMo; rintro e v4 ⟨rfl, hb4⟩; have HLP1 := Lib.hid (HLP0.out.keep hb4); clear hb4))
          | (go_at_call 10; ((with_reducible refine (lawake_any _).mono ?_); rintro e wa ⟨rfl, hba⟩; have HBa := Lib.hid (pb2 HLP1.out.be hba); clear hba))
          | fail)
        go_ret
        exact ⟨by simp, HBa.out⟩
      have HOPN := Lib.hid hop
      have cMo := fun W => rmayop_any oc ok oh ov W true (decide_eq_true hop)
      have hAN : A n = doA (R n) oc ok oh := by rw [HAS.out n, HFN.out]
      have hRN : R (n + 1) = doP (R n) oc ok ov := by rw [HRS.out n, HFN.out]
      have cd := fun W h => rdo_any am cm (R n) oc ok oh ov W h (by have := HRL.out n; omega)
      rw [← hAN, ← hRN] at cd
      unfold DoIs Ad.val at cd
      have HAL2 : Hid ((A n).ps.length ≤ 30) := Lib.hid (by have h1 := HAL.out n; have h2 := HRL.out n; omega)
      clear hop hAN hRN
      obtain ⟨An, hAe⟩ : ∃ An, An = A n := ⟨_, rfl⟩
      rw [← hAe] at cd HAL2
      have HAE := Lib.hid hAe
      clear hAe
      go_upto_region 11 with (first
        | (go_at_call 11; ((with_reducible refine (cMo _).mono ?_); clear cMo; rintro e v4 ⟨rfl, hb4⟩; have HLP1 := Lib.hid (HLP0.out.keep hb4); have HQ1 := Lib.hid (HQ0.out.keep hb4); have p0 := HQ1.out.at_ 0 _ rfl; have p1 := HQ1.out.at_ 1 _ rfl; have p2 := HQ1.out.at_ 2 _ rfl; have p3 := HQ1.out.at_ 3 _ rfl; clear hb4 c0 c1 c2 c3))
        | (go_at_call 14; ((with_reducible refine (cd _ (HLP1.out.pr.prs rfl)).mono ?_); clear cd p0 p1 p2 p3; rintro e v5 ⟨ar, cr, aa, ca, rfl, hp5, ha5, hb5⟩; have HLP2 := Lib.hid ((HLP1.out.keep hb5).keep (pal (w := v5) (.cells #[.int .i64 An.err, .bool An.ok, .int .i64 An.k, .int .i64 An.v, .int .i64 An.n, .slice aa An.ps.length ca] 34))); have HQ2 := Lib.hid (HQ1.out.keep hb5); have HP5 := Lib.hid (hp5.below (pal (w := v5) (.cells #[.int .i64 An.err, .bool An.ok, .int .i64 An.k, .int .i64 An.v, .int .i64 An.n, .slice aa An.ps.length ca] 34))); have HA5 := Lib.hid (ha5.below (pal (w := v5) (.cells #[.int .i64 An.err, .bool An.ok, .int .i64 An.k, .int .i64 An.v, .int .i64 An.n, .slice aa An.ps.length ca] 34))); have p0 := HQ2.out.at_ 0 _ rfl; have p1 := HQ2.out.at_ 1 _ rfl; have p2 := HQ2.out.at_ 2 _ rfl; have p3 := HQ2.out.at_ 3 _ rfl; have hql := HQ2.out.lt; have HV4 := Lib.hid (show ∀ k, (Value.slice ah (2 * n) ch).ownBlock = some k → k < v4.heap.size from fun k hk => (HLP1.out.er.row.lt k hk).2); clear hp5 ha5 hb5))
        | fail)
      have HLP3 := Lib.hid (HLP2.out.keep (pal (w := (v5.alloc (.cells #[.int .i64 An.err, .bool An.ok, .int .i64 An.k, .int .i64 An.v, .int .i64 An.n, .slice aa An.ps.length ca] 34))) (.cells #[.int .i64 ((n : Int) % 3), .bool false, .int .i64 oc, .int .i64 ok, .int .i64 oh, .int .i64 ov, .int .i64 0, .bool false, .int .i64 0, .int .i64 0, .int .i64 0, .slice none 0 0, .int .i64 ((n : Int) % 3), .bool true, .int .i64 oc, .int .i64 ok, .int .i64 oh, .int .i64 ov, .int .i64 An.err, .bool An.ok, .int .i64 An.k, .int .i64 An.v, .int .i64 An.n, .slice aa An.ps.length ca] 36)))
      have HEV := Lib.hid (Bq.new (v5.alloc (.cells #[.int .i64 An.err, .bool An.ok, .int .i64 An.k, .int .i64 An.v, .int .i64 An.n, .slice aa An.ps.length ca] 34)) #[.int .i64 ((n : Int) % 3), .bool false, .int .i64 oc, .int .i64 ok, .int .i64 oh, .int .i64 ov, .int .i64 0, .bool false, .int .i64 0, .int .i64 0, .int .i64 0, .slice none 0 0, .int .i64 ((n : Int) % 3), .bool true, .int .i64 oc, .int .i64 ok, .int .i64 oh, .int .i64 ov, .int .i64 An.err, .bool An.ok, .int .i64 An.k, .int .i64 An.v, .int .i64 An.n, .slice aa An.ps.length ca] 36)
      rw [show (v5.alloc (.cells #[.int .i64 An.err, .bool An.ok, .int .i64 An.k, .int .i64 An.v, .int .i64 An.n, .slice aa An.ps.length ca] 34)).heap.size = v5.heap.size + 1 by simp] at HEV
      have HP6 := Lib.hid (HP5.out.below (pal (w := (v5.alloc (.cells #[.int .i64 An.err, .bool An.ok, .int .i64 An.k, .int .i64 An.v, .int .i64 An.n, .slice aa An.ps.length ca] 34))) (.cells #[.int .i64 ((n : Int) % 3), .bool false, .int .i64 oc, .int .i64 ok, .int .i64 oh, .int .i64 ov, .int .i64 0, .bool false, .int .i64 0, .int .i64 0, .int .i64 0, .slice none 0 0, .int .i64 ((n : Int) % 3), .bool true, .int .i64 oc, .int .i64 ok, .int .i64 oh, .int .i64 ov, .int .i64 An.err, .bool An.ok, .int .i64 An.k, .int .i64 An.v, .int .i64 An.n, .slice aa An.ps.length ca] 36)))
      have HA6 := Lib.hid (HA5.out.below (pal (w := (v5.alloc (.cells #[.int .i64 An.err, .bool An.ok, .int .i64 An.k, .int .i64 An.v, .int .i64 An.n, .slice aa An.ps.length ca] 34))) (.cells #[.int .i64 ((n : Int) % 3), .bool false, .int .i64 oc, .int .i64 ok, .int .i64 oh, .int .i64 ov, .int .i64 0, .bool false, .int .i64 0, .int .i64 0, .int .i64 0, .slice none 0 0, .int .i64 ((n : Int) % 3), .bool true, .int .i64 oc, .int .i64 ok, .int .i64 oh, .int .i64 ov, .int .i64 An.err, .bool An.ok, .int .i64 An.k, .int .i64 An.v, .int .i64 An.n, .slice aa An.ps.length ca] 36)))
      have HPS : Hid (∀ m ∈ [(⟨⟨((n : Int) % 3), false, ⟨oc, ok, oh, ov⟩, zAd⟩, none, 0⟩ : RE), ⟨⟨((n : Int) % 3), true, ⟨oc, ok, oh, ov⟩, An⟩, aa, ca⟩], Prs ((v5.alloc (.cells #[.int .i64 An.err, .bool An.ok, .int .i64 An.k, .int .i64 An.v, .int .i64 An.n, .slice aa An.ps.length ca] 34)).alloc (.cells #[.int .i64 ((n : Int) % 3), .bool false, .int .i64 oc, .int .i64 ok, .int .i64 oh, .int .i64 ov, .int .i64 0, .bool false, .int .i64 0, .int .i64 0, .int .i64 0, .slice none 0 0, .int .i64 ((n : Int) % 3), .bool true, .int .i64 oc, .int .i64 ok, .int .i64 oh, .int .i64 ov, .int .i64 An.err, .bool An.ok, .int .i64 An.k, .int .i64 An.v, .int .i64 An.n, .slice aa An.ps.length ca] 36)) m.a m.c m.e.a.ps ∧ (m.e.a.ps ≠ [] → ∀ b o sp, m.a = some ⟨b, o, sp⟩ → ¬ (fun _ => False) b ∧ (Value.slice ah (2 * n) ch).ownBlock ≠ some b)) := Lib.hid (fun m hm => by
        rcases List.mem_cons.1 hm with e | hm
        · subst e
          exact ⟨Prs.nil _, fun h => absurd rfl h⟩
        · obtain rfl := List.mem_singleton.1 hm
          refine ⟨HA6.out.prs rfl, fun hne b o sp e => ⟨fun x => x, fun hh => ?_⟩⟩
          exact prow_b HA6.out hne e (HV4.out b hh))
      have hml : M.length = 2 * n := HLP2.out.es.1.symm
      have HML := Lib.hid hml
      have HL9 := Lib.hid (show M.length + [(⟨⟨((n : Int) % 3), false, ⟨oc, ok, oh, ov⟩, zAd⟩, none, 0⟩ : RE), ⟨⟨((n : Int) % 3), true, ⟨oc, ok, oh, ov⟩, An⟩, aa, ca⟩].length ≤ 100000 by rw [hml]; simp; omega)
      have HL10 := Lib.hid (show M.length + [(⟨⟨((n : Int) % 3), false, ⟨oc, ok, oh, ov⟩, zAd⟩, none, 0⟩ : RE), ⟨⟨((n : Int) % 3), true, ⟨oc, ok, oh, ov⟩, An⟩, aa, ca⟩].length = 2 * (n + 1) by rw [hml]; simp; omega)
      clear hml
      go_upto_region 12 with (first
        | (refine wpList_evs rfl _ _ rfl (fun _ => False) (.slice ah (2 * n) ch) M [⟨⟨((n : Int) % 3), false, ⟨oc, ok, oh, ov⟩, zAd⟩, none, 0⟩, ⟨⟨((n : Int) % 3), true, ⟨oc, ok, oh, ov⟩, An⟩, aa, ca⟩] rfl HLP3.out.er (fun _ h => h.elim) HPS.out _ rfl (src_ev2 HEV.out) HL9.out (2 * (n + 1)) HL10.out ?_; intro ao2 lc2 We h1 h2 hE hO hK; have HNX := Lib.hid (HLP3.out.push HP6.out (fun k hk => HV4.out k hk) hE hO hK); clear h1 h2 hE hO hK)
        | fail)
      clear HLP HLP0 HLP1 HLP2 HLP3 HQ0 HQ1 HQ2 HP5 HP6 HA5 HA6 HEV HPS p0 p1 p2 p3
      go_wp2_with (fail)
      go_roundw
      case rel =>
        refine ⟨n + 1, ar, cr, ao2, lc2, M ++ [⟨⟨((n : Int) % 3), false, ⟨oc, ok, oh, ov⟩, zAd⟩, none, 0⟩, ⟨⟨((n : Int) % 3), true, ⟨oc, ok, oh, ov⟩, An⟩, aa, ca⟩], by omega, by go_num, rfl, rfl, fun i hi => ?_, ?_⟩
        · by_cases e : i = n
          · subst e; rw [HFN.out]; exact HOPN.out
          · exact HOK.out i (by omega)
        · have h := HNX.out
          have e : hiG (fun i => ((i : Nat) : Int) % 3) f A (n + 1) = hiG (fun i => ((i : Nat) : Int) % 3) f A n ++ [(⟨⟨((n : Int) % 3), false, ⟨oc, ok, oh, ov⟩, zAd⟩, none, 0⟩ : RE).e, (⟨⟨((n : Int) % 3), true, ⟨oc, ok, oh, ov⟩, An⟩, aa, ca⟩ : RE).e] := by
            show _ ++ [_, _] = _
            rw [HFN.out, HAE.out]
          rw [e]
          exact h
      case measure => simp [intOf]; omega
    · obtain rfl : n = z1.length := by omega
      clear hok hlp
      obtain ⟨kn, hk, hum⟩ := umodR a2 (z1.length : Int) (by omega) (by omega)
      have hkl : kn < z1.length := by omega
      have HKN := Lib.hid hkl
      have HTH := Lib.hid (show ∀ i : Nat, okT ((i : Int) % 3) from fun i => by
        have h1 := Int.emod_nonneg (i : Int) (show (3 : Int) ≠ 0 by decide)
        have h2 := Int.emod_lt_of_pos (i : Int) (show (0 : Int) < 3 by decide)
        unfold okT; omega)
      have HER := Lib.hid (show ∀ i, i < z1.length → (A i).err = 0 from fun i hi => by rw [HAS.out]; exact doA_err (HSR.out i) (HOK.out i hi) _ _)
      obtain ⟨X, hX⟩ : ∃ X, X = bits .xor .i64 (A kn).n a3 := ⟨_, rfl⟩
      have hXn : ¬ X = (A kn).n := fun e => by
        have h1 := HAN2.out kn
        have h2 := HRL.out kn
        have h3 := xor_self0 (A kn).n a3 (by omega) (wf_range w3)
        rw [← hX, e] at h3
        simp [hby] at h3
      have HXN := Lib.hid hXn
      obtain ⟨Y, hY⟩ : ∃ Y, Y = !(A kn).ok := ⟨_, rfl⟩
      have HYE := Lib.hid hY
      have HYN : Hid (¬ Y = (A kn).ok) := Lib.hid (by rw [hY]; cases (A kn).ok <;> simp)
      obtain ⟨A1, hA1⟩ : ∃ A1 : Nat → Ad, A1 = fun i => if i = kn then ({ A kn with n := X } : Ad) else A i := ⟨_, rfl⟩
      obtain ⟨A2, hA2⟩ : ∃ A2 : Nat → Ad, A2 = fun i => if i = kn then ({ A kn with ok := Y } : Ad) else A i := ⟨_, rfl⟩
      have HO0 := Lib.hid (hiG_ord (A := A) HS.out HTH.out z1.length HOK.out HER.out)
      have HY0 : Hid (okF z0 (hiG (fun i => ((i : Nat) : Int) % 3) f A z1.length) ∧ ∃ l, ordR z0 (hiG (fun i => ((i : Nat) : Int) % 3) f A z1.length) l) := Lib.hid ⟨(hiG_okF HS.out HTH.out _ HOK.out).2 (by omega), _, HO0.out.1.2 (fun i hi => by rw [HAN.out])⟩
      have no : ∀ A' : Nat → Ad, (∀ i, (A' i).err = (A i).err) → ¬ A' kn = A kn → ¬ ∃ l, ordR z0 (hiG (fun i => ((i : Nat) : Int) % 3) f A' z1.length) l := fun A' h1 h2 ⟨l, hl⟩ => by
        have h3 := hiG_ord (A := A') HS.out HTH.out z1.length HOK.out (fun i hi => by rw [h1]; exact HER.out i hi)
        have h4 := h3.2 l hl
        rw [h4] at hl
        have h5 := h3.1.1 hl kn hkl
        rw [← HAN.out] at h5
        exact h2 h5.symm
      have HN1 := Lib.hid (no A1 (fun i => by rw [hA1]; dsimp only; by_cases h : i = kn <;> simp [h]) (fun e => HXN.out (by rw [hA1] at e; simp only [if_true] at e; exact congrArg Ad.n e)))
      have HN2 := Lib.hid (no A2 (fun i => by rw [hA2]; dsimp only; by_cases h : i = kn <;> simp [h]) (fun e => HYN.out (by rw [hA2] at e; simp only [if_true] at e; exact congrArg Ad.ok e)))
      have HS1 := Lib.hid (hiG_set (th := fun i => ((i : Nat) : Int) % 3) (f := f) (A := A) { A kn with n := X } hkl)
      have HS2 := Lib.hid (hiG_set (th := fun i => ((i : Nat) : Int) % 3) (f := f) (A := A) { A kn with ok := Y } hkl)
      rw [← hA1] at HS1
      rw [← hA2] at HS2
      have HP0 := Lib.hid (show ∀ i, i < z1.length → (A i).ps.length ≤ 1100000 from fun i _ => by have h1 := HAL.out i; have h2 := HRL.out i; omega)
      have HP1 := Lib.hid (show ∀ i, i < z1.length → (A1 i).ps.length ≤ 1100000 from fun i hi => by rw [hA1]; dsimp only; split; exact HP0.out kn hkl; exact HP0.out i hi)
      have HP2 := Lib.hid (show ∀ i, i < z1.length → (A2 i).ps.length ≤ 1100000 from fun i hi => by rw [hA2]; dsimp only; split; exact HP0.out kn hkl; exact HP0.out i hi)
      clear no hA1 hA2 hXn
      have hN300 : z1.length ≤ 100 := by omega
      have cA := fun W ao co A' (hE : Es W ao co (hiG (fun i => ((i : Nat) : Int) % 3) f A' z1.length)) (hb : Below w.heap.size w W) (hp : ∀ i, i < z1.length → (A' i).ps.length ≤ 1100000) B hB => any_any a0 ao cap0 co z0 _ W (HW0.out.below hb) hE (by omega) (hi_ok hp HFW.out hN300).1 (hi_ok hp HFW.out hN300).2.1 HRG.out (hi_ok hp HFW.out hN300).2.2 B hB
      simp only [hiG_len] at cA
      obtain ⟨Mh, hMe, hMl, hsrc, hpm⟩ := src_evs HLP.out.es.2 (fun e => by
        obtain ⟨g, c, e2, _⟩ := row_at HLP.out.er.row (by have := HLP.out.es.1; omega)
        rw [e] at e2; cases e2)
      rw [hiG_len] at hMl hsrc
      have HMM := Lib.hid hMe
      have HSRC := Lib.hid hsrc
      have HPM := Lib.hid hpm
      have HMLL := Lib.hid hMl
      clear hMe hsrc hpm hMl
      have c1 := fun W hE hb => cA W ah ch A hE hb HP0.out true (by simp only [true_iff]; exact HY0.out)
      go_upto_region 16 with (first
        | (go_at_call 9; ((with_reducible refine (c1 _ HLP.out.es.2 HLP.out.be).mono ?_); clear c1; rintro e v6 ⟨rfl, hb6⟩; have HLP6 := Lib.hid (HLP.out.keep hb6); have HB66 := Lib.hid hb6; clear hb6))
        | fail)
      go_upto_region 17 with (fail)
      rw [hum]
      obtain ⟨kk, hkk⟩ : ∃ kk, kk = kn * 2 + 1 := ⟨_, rfl⟩
      have HKK := Lib.hid hkk
      go_upto_region 17 with (fail)
      rw [show ((kn : Int) * 2 + 1) = (kk : Int) by omega]
      have hk0 : (0 : Int) ≤ (kk : Int) := Int.natCast_nonneg kk
      have hkL : kk < 2 * z1.length := by omega
      have hkI : (kk : Int) < (2 * z1.length : Nat) := Int.ofNat_lt.2 hkL
      have hkJ : (kk : Int) < 2 * (z1.length : Int) := by omega
      clear hkk hkl hk
      have HSR6 := Lib.hid (show ∀ W, Below v6.heap.size v6 W → Source W (.slice ah (2 * z1.length) ch) Mh.length (cellsE Mh) from fun W hb => by have := src_keep HSRC.out (pb2 HB66.out hb); exact this)
      have HPM6 := Lib.hid (show ∀ m ∈ Mh, Prs v6 m.a m.c m.e.a.ps from fun m hm => (HPM.out m hm).below HB66.out)
      have HE6 := Lib.hid (HLP6.out.er.sub (Q' := fun k => v6.heap.size ≤ k) (fun k hk h => by omega))
      go_upto_region 18 with (first
        | (refine wpList_tw rfl _ _ rfl v6 (.slice (some ⟨v6.heap.size, 0, none⟩) 0 0) [] Mh rfl (TW.a0 (Below.refl _ _)) HPM6.out _ rfl (HSR6.out _ (pal _)) (by rw [HMLL.out]; simp; omega) (2 * z1.length) (by rw [HMLL.out]; simp) ?_; intro ao7 lc7 v7 hm7 hc7 hT7 hO7 hK7; have HT7 := Lib.hid hT7; have HB67 := Lib.hid hT7.be; clear hT7 hO7 hK7)
        | fail)
      obtain ⟨m, hm⟩ : ∃ m, Mh[kk]? = some m := ⟨_, List.getElem?_eq_getElem (by have := HMLL.out; omega)⟩
      obtain ⟨g7, rfl, hnM, hea, hfr⟩ := HT7.out.row.at hm
      have hme : m.e = ⟨((kn : Nat) : Int) % 3, true, f kn, A kn⟩ := by
        have h1 := congrArg (fun l => l[kk]?) HMM.out
        rw [List.getElem?_map, hm, HKK.out] at h1
        have h2 := hiG_get (th := fun i => ((i : Nat) : Int) % 3) (f := f) (A := A) HKN.out
        rw [show kn * 2 + 1 = 2 * kn + 1 by omega, h2] at h1
        exact Option.some.inj h1
      have HME := Lib.hid hme
      have HM := Lib.hid hm
      have x10 := hea.at_ 10 _ rfl
      have x7 := hea.at_ 7 _ rfl
      have f10 := hfr (kk * 12 + 10)
      rw [hme] at x10 x7
      have HX := Lib.hid hX
      have hcap := HT7.out.row.form
      obtain ⟨_, _, hce, hc1, hc2⟩ := hcap
      simp only [Value.slice.injEq] at hce
      obtain ⟨-, -, rfl⟩ := hce
      unfold maxLen at hc2
      clear hm hea hfr hme hX x7 hnM
      go_upto_region 19 with (fail)
      have hg7 : v6.heap.size ≤ g7 := HT7.out.own g7 rfl
      have hX2 : ({ A kn with n := bits .xor .i64 (A kn).n a3 } : Ad) = { A kn with n := X } := by rw [HX.out]
      have o8 : Only (fun k => k = g7) v7 (v7.setCell ⟨g7, kk * 12 + 6 + 4, none⟩ (.int .i64 (bits .xor .i64 (A kn).n a3))) := (Only.refl (fun k => k = g7) v7).setCell (p := ⟨g7, kk * 12 + 6 + 4, none⟩) (.inl rfl) _
      have hb8 := erow_turnN (M := Mh) HT7.out.row HM.out (bits .xor .i64 (A kn).n a3)
      rw [show kk * 12 + 10 = kk * 12 + 6 + 4 by omega] at hb8
      have hmap1 : (Mh.set kk ⟨⟨m.e.t, m.e.r, m.e.o, { m.e.a with n := bits .xor .i64 (A kn).n a3 }⟩, m.a, m.c⟩).map (fun m => m.e) = hiG (fun i => ((i : Nat) : Int) % 3) f A1 z1.length := by
        rw [List.map_set, HMM.out, ← HS1.out, HME.out, HKK.out, show kn * 2 + 1 = 2 * kn + 1 by omega, HX.out]
      have HMAP1 := Lib.hid hmap1
      have HB8 := Lib.hid (hb8.sub (Q' := fun k => (v7.setCell ⟨g7, kk * 12 + 6 + 4, none⟩ (.int .i64 (bits .xor .i64 (A kn).n a3))).heap.size ≤ k) (fun k hk h => by omega))
      have HE8 := Lib.hid (((HE6.out.keep HB67.out).only o8 (fun k hk => by have e : k = g7 := hk; omega)).sub (Q' := fun k => (v7.setCell ⟨g7, kk * 12 + 6 + 4, none⟩ (.int .i64 (bits .xor .i64 (A kn).n a3))).heap.size ≤ k) (fun k hk h => by omega))
      have HBB8 := Lib.hid ((pb2 HLP6.out.be HB67.out).trans (o8.below (fun k hk => by have e : k = g7 := hk; have := HLP6.out.be.size; omega) (pb2 HLP6.out.be HB67.out).size))
      clear hmap1 hb8 o8 hX2 x10 f10
      generalize v7.setCell ⟨g7, kk * 12 + 6 + 4, none⟩ (.int .i64 (bits .xor .i64 (A kn).n a3)) = W8 at *
      generalize (Mh.set kk ⟨⟨m.e.t, m.e.r, m.e.o, { m.e.a with n := bits .xor .i64 (A kn).n a3 }⟩, m.a, m.c⟩) = Mb at *
      have hes8 := HE8.out.ns.2
      rw [HLP6.out.em] at hes8
      obtain ⟨Mk, hKe, hKl, hsrc2, hpm2⟩ := src_evs hes8 (fun e => by
        obtain ⟨g, c, e2, _⟩ := row_at HLP.out.er.row (by have := HLP.out.es.1; omega)
        rw [e] at e2; cases e2)
      rw [hiG_len] at hKl hsrc2
      have HKM := Lib.hid hKe
      have HKLL := Lib.hid hKl
      have HSR8 := Lib.hid hsrc2
      have HPM8 := Lib.hid hpm2
      clear hKe hKl hsrc2 hpm2 hes8 HT7 HSR6 HPM6 HSRC HPM
      go_upto_region 20 with (first
        | (refine wpList_tw rfl _ _ rfl W8 (.slice (some ⟨W8.heap.size, 0, none⟩) 0 0) [] Mk rfl (TW.a0 (Below.refl _ _)) HPM8.out _ rfl (src_keep HSR8.out (pal _)) (by rw [HKLL.out]; simp; omega) (2 * z1.length) (by rw [HKLL.out]; simp) ?_; intro ao9 lc9 v9 hm9 hc9 hT9 hO9 hK9; have HT9 := Lib.hid hT9; have HB89 := Lib.hid hT9.be; clear hT9 hO9 hK9)
        | fail)
      obtain ⟨m9, hm9'⟩ : ∃ m, Mk[kk]? = some m := ⟨_, List.getElem?_eq_getElem (by have := HKLL.out; omega)⟩
      obtain ⟨g9, rfl, hnM, hea, hfr⟩ := HT9.out.row.at hm9'
      have hme : m9.e = ⟨((kn : Nat) : Int) % 3, true, f kn, A kn⟩ := by
        have h1 := congrArg (fun l => l[kk]?) HKM.out
        rw [List.getElem?_map, hm9', HKK.out] at h1
        have h2 := hiG_get (th := fun i => ((i : Nat) : Int) % 3) (f := f) (A := A) HKN.out
        rw [show kn * 2 + 1 = 2 * kn + 1 by omega, h2] at h1
        exact Option.some.inj h1
      have HME9 := Lib.hid hme
      have HM9 := Lib.hid hm9'
      have x7 := hea.at_ 7 _ rfl
      have f7 := hfr (kk * 12 + 7)
      rw [hme] at x7
      obtain ⟨_, _, hce, hc3, hc4⟩ := HT9.out.row.form
      simp only [Value.slice.injEq] at hce
      obtain ⟨-, -, rfl⟩ := hce
      unfold maxLen at hc4
      clear hm9' hea hfr hme hnM
      go_upto_region 21 with (fail)
      have hg9 : W8.heap.size ≤ g9 := HT9.out.own g9 rfl
      have o10 : Only (fun k => k = g9) v9 (v9.setCell ⟨g9, kk * 12 + 6 + 1, none⟩ (.bool !(A kn).ok)) := (Only.refl (fun k => k = g9) v9).setCell (p := ⟨g9, kk * 12 + 6 + 1, none⟩) (.inl rfl) _
      have h10 := erow_turnK (M := Mk) HT9.out.row HM9.out (!(A kn).ok)
      rw [show kk * 12 + 7 = kk * 12 + 6 + 1 by omega] at h10
      have hmap2 : (Mk.set kk ⟨⟨m9.e.t, m9.e.r, m9.e.o, { m9.e.a with ok := !(A kn).ok }⟩, m9.a, m9.c⟩).map (fun m => m.e) = hiG (fun i => ((i : Nat) : Int) % 3) f A2 z1.length := by
        rw [List.map_set, HKM.out, ← HS2.out, HME9.out, HKK.out, show kn * 2 + 1 = 2 * kn + 1 by omega, ← HYE.out]
      have he9 := h10.ns.2
      rw [hmap2] at he9
      have HEO := Lib.hid he9
      have he8 := ((HB8.out.keep HB89.out).only o10 (fun k hk => by have e : k = g9 := hk; omega)).ns.2
      rw [HMAP1.out] at he8
      have HEB := Lib.hid he8
      have he6 := ((HE8.out.keep HB89.out).only o10 (fun k hk => by have e : k = g9 := hk; omega)).ns.2
      rw [HLP6.out.em] at he6
      have HEH := Lib.hid he6
      have HBW := Lib.hid ((pb2 HBB8.out HB89.out).trans (o10.below (fun k hk => by have e : k = g9 := hk; have := HBB8.out.size; omega) (pb2 HBB8.out HB89.out).size))
      clear hmap2 h10 he9 he8 he6 o10 x7 f7
      generalize v9.setCell ⟨g9, kk * 12 + 6 + 1, none⟩ (.bool !(A kn).ok) = W10 at *
      have c2 := fun W hE hb => cA W (some ⟨g7, 0, none⟩) lc7 A1 hE hb HP1.out false (by simp only [Bool.false_eq_true, false_iff]; exact fun x => HN1.out x.2)
      have c3 := fun W hE hb => cA W (some ⟨g9, 0, none⟩) lc9 A2 hE hb HP2.out false (by simp only [Bool.false_eq_true, false_iff]; exact fun x => HN2.out x.2)
      have hps28 : ∀ e ∈ hiG (fun i => ((i : Nat) : Int) % 3) f A z1.length, e.a.ps.length ≤ 28 := fun e he => by
        obtain ⟨i, hi, _, h⟩ := hiG_mem he
        rcases h with h | h <;> rw [h]
        · exact Nat.zero_le _
        · have h1 := HAL.out i; have h2 := HRL.out i; omega
      have hlg : LgtE (hiG (fun i => ((i : Nat) : Int) % 3) f A z1.length) := ⟨by rw [hiG_len]; omega, by have := esum_bd hps28 (hiG (fun i => ((i : Nat) : Int) % 3) f A z1.length).length; rw [hiG_len] at this ⊢; omega⟩
      have c4 := fun W hE => light_anyE ah ch (hiG (fun i => ((i : Nat) : Int) % 3) f A z1.length) W hE (fun e he => Nat.le_trans (hps28 e he) (by decide)) 0 (fun _ => rfl) (fun h => absurd hlg h)
      rw [hiG_len] at c4
      clear hps28 hlg cA
      go_wp2_with (first
        | (go_at_call 9; first
          | ((with_reducible refine (c2 _ HEB.out HBW.out).mono ?_); clear c2; rintro e u1 ⟨rfl, hu1⟩; have HU1 := Lib.hid hu1; clear hu1)
          | ((with_reducible refine (c3 _ (HEO.out.keep HU1.out) (pb2 HBW.out HU1.out)).mono ?_); clear c3; rintro e u2 ⟨rfl, hu2⟩; have HU2 := Lib.hid (pb2 HU1.out hu2); clear hu2))
        | (go_at_call 15; ((with_reducible refine (c4 _ (HEH.out.keep HU2.out)).mono ?_); clear c4; rintro e u3 ⟨rfl, hu3⟩; have HU3 := Lib.hid (pb2 HBW.out (pb2 HU2.out hu3)); clear hu3))
        | (go_at_call 10; ((with_reducible refine (lawake_any _).mono ?_); rintro e wa ⟨rfl, hba⟩; have HBa := Lib.hid (pb2 HU3.out hba); clear hba))
        | fail)
      go_ret
      exact ⟨by simp, HBa.out⟩

set_option maxRecDepth 100000 in
theorem lifted (os : Os) (started : os.Started) (H : Type) (enc : TypeId × Value → H) :
    ReturnsInHanded {} Try.checked os 5 .any (Rows.linWrongSpec.pre6 enc Try.prog Try.f5 Rows.linWrongRow.domain false) (Rows.linWrongSpec.post enc Try.prog Try.f5 false true false false) := by
  refine returnsInHanded_of_change (C := Try.checked) own started (by kernel_rfl) Try.func5
    (ChangeSpec.witness6 (enc := enc) (C := Try.checked) false ⟨#[], #[.slice none 0 0, .slice none 0 0, .int .i64 0, .int .i64 0], []⟩ 8 (by kernel_rfl) (by kernel_rfl) (by kernel_rfl) (by kernel_rfl)) ?_
  intro W base args ds gs before hval0 hW hcnd _
  have hval : ∀ (j : Nat) t v, Try.f5.params[j]? = some t → args[j]? = some v → Value.okWide Try.prog W .any base t v := hval0
  have hW' := hW
  obtain ⟨p, q, hA0, hV, rfl, hfz, hnd⟩ := hW
  have hA : DataW.TrodAll enc Try.prog W 0 (fun _ => true) true Try.f5.params.toList args.toList ds p := hA0
  rw [Try.params5] at hA hval
  obtain ⟨v0, vs0, d0, ds0, p0, q0, hargs, rfl, rfl, h0, r0⟩ := trodAll_cons hA
  obtain ⟨v1, vs1, d1, ds1, p1, q1, rfl, rfl, rfl, h1, r1⟩ := trodAll_cons r0
  obtain ⟨v2, vs2, d2, ds2, p2, q2, rfl, rfl, rfl, h2, r2⟩ := trodAll_cons r1
  obtain ⟨v3, vs3, d3, ds3, p3, q3, rfl, rfl, rfl, h3, r3⟩ := trodAll_cons r2
  obtain ⟨rfl, rfl, rfl⟩ := trodAll_nil r3
  obtain rfl : args = #[v0, v1, v2, v3] := by cases args; simp_all
  obtain ⟨rfl, rfl⟩ := trodVars_none hV
  have k0 := h0
  have lt0 : ∀ x ∈ p0, x.block < W.heap.size := by obtain ⟨m, hm⟩ := k0; exact DataW.trod_lt m _ _ _ hm
  obtain ⟨b0, l0, c0, rfl⟩ := okWide_slice Try.underlying22 (hval 0 22 v0 rfl rfl)
  obtain ⟨a0, cap0, z0, e0, w0, g0⟩ := open_pairsw (enc := enc) (w := W) (v := .slice b0 l0 c0) (fuel := h0.choose) (by simpa [Value.cells] using h0.choose_spec)
  rw [e0] at hval k0 h0 hW' hval0 hA0
  have k1 := h1
  have lt1 : ∀ x ∈ p1, x.block < W.heap.size := by obtain ⟨m, hm⟩ := k1; exact DataW.trod_lt m _ _ _ hm
  obtain ⟨b1, l1, c1, rfl⟩ := okWide_slice Try.underlying46 (hval 1 46 v1 rfl rfl)
  obtain ⟨a1, cap1, z1, e1, w1⟩ := open_ops (enc := enc) (w := W) (v := .slice b1 l1 c1) (fuel := h1.choose) (by simpa [Value.cells] using h1.choose_spec)
  rw [e1] at hval k1 h1 hW' hval0 hA0
  have k2 := h2
  have lt2 : ∀ x ∈ p2, x.block < W.heap.size := by obtain ⟨m, hm⟩ := k2; exact DataW.trod_lt m _ _ _ hm
  obtain ⟨a2, rfl, rfl, rfl, w2⟩ := open_int Try.underlying3 (hval 2 3 v2 rfl rfl) h2
  have k3 := h3
  have lt3 : ∀ x ∈ p3, x.block < W.heap.size := by obtain ⟨m, hm⟩ := k3; exact DataW.trod_lt m _ _ _ hm
  obtain ⟨a3, rfl, rfl, rfl, w3⟩ := open_int Try.underlying3 (hval 3 3 v3 rfl rfl) h3
  clear hA0 hval0
  rw [e0]; rw [e1]; refine (walk a0 cap0 z0 a1 cap1 z1 a2 a3 W w0 g0 w1 w2 w3).mono fun e W' ⟨he, bel⟩ => ?_
  subst he
  exact ⟨_, rfl, _, _, _, [], _, [], hW', trodAll_mk1 (shut_bool Try.underlying4 _), (trodAll_cons_mk (Below.trod laidOut (by kernel_rfl) (of_decide_eq_true (by kernel_rfl)) k0 bel lt0) (trodAll_cons_mk (Below.trod laidOut (by kernel_rfl) (of_decide_eq_true (by kernel_rfl)) k1 bel lt1) (trodAll_cons_mk (Below.trod laidOut (by kernel_rfl) (of_decide_eq_true (by kernel_rfl)) k2 bel lt2) (trodAll_cons_mk (Below.trod laidOut (by kernel_rfl) (of_decide_eq_true (by kernel_rfl)) k3 bel lt3) trodAll_mk0)))), rfl, bel.frame _, fun h => by cases h⟩

theorem over : Rows.linWrongRow.holds Try.pinned (OpenSpec.ofChange Rows.linWrongSpec) :=
  OpenClaim.holds_of_wide 5 Try.f5 rfl rfl rfl rfl rfl rfl rfl ⟨rfl, rfl, rfl, rfl, rfl⟩ rfl rfl rfl rfl rfl (by kernel_rfl) Try.func5 (by kernel_rfl)
    (of_decide_eq_true (by kernel_rfl)) (by unfold Func.isWrapper; first | (rw [if_pos (by decide +kernel)]; kernel_rfl) | (rw [if_neg (by decide +kernel)]; exact ⟨rfl, rfl⟩))
    (fun os started H enc _ => lifted os started H enc)

theorem linWrongHolds : Rows.LinWrongSaid := over
#print axioms linWrongHolds
end Go.Proofs.Ytadfnbmogobopaa.linWrong
