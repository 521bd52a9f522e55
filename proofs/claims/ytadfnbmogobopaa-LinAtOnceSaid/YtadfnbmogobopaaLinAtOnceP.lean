/- Calls that all run at once, and were told what one map tells in some order, have an order. No condition. -/
import Derived.Test.YtadfnbmogobopaaRows
import Derived.Test.YtadfnbmogobopaaLiT
import Derived.LoopTactic
import Derived.WalkKit
import Derived.ProofKit
import Derived.OpenShut
import Derived.ChangeOld
import Derived.Below
namespace Go.Proofs.Ytadfnbmogobopaa.linAtOnce
open Go.ChangeShapes Go.WideShapes Go.ChangeAt Go.RowKit
set_option linter.all false

theorem own : ownKnob Try.prog.godebug = none := by kernel_rfl
theorem laidOut : laidOutB Try.prog = true := by kernel_rfl



set_option maxRecDepth 100000 in
set_option maxHeartbeats 51200000 in
theorem walk (a0 : Option Addr) (cap0 : Nat) (z0 : List Pr) (a1 : Option Addr) (cap1 : Nat) (z1 : List OpD) (w : World) (w0 : Prs w a0 cap0 z0) (r0 : Rng z0) (w1 : Ops w a1 cap1 z1) :
    Calls Try.prog 6 #[.slice a0 z0.length cap0, .slice a1 z1.length cap1] w fun e w' => e = .returned (.bool true) ∧ Below w.heap.size w w' := by
  have hz1 := w0.1
  have hz2 := w0.2.1
  have hz3 := w1.1
  have hz4 := w1.2.1
  unfold maxLen at hz2 hz4
  by_cases hA : z0.length ≤ 20
  rotate_left
  · have h3 : (20 : Int) < (z0.length : Int) := by omega
    clear hA
    go_enter Try.func6, Try.ntmps6
    go_wp2_with (first
      | (go_at_call 10; ((with_reducible refine (lawake_any _).mono ?_); rintro e wa ⟨rfl, hba⟩; have HBa := Lib.hid (pb2 (Below.refl _ _) hba); clear hba))
      | fail)
    go_ret
    exact ⟨by simp, HBa.out⟩
  have h3 : ¬ (20 : Int) < (z0.length : Int) := by omega
  have cM0 := fun W (hb : Below w.heap.size w W) => rmay_any a0 cap0 z0 W (w0.below hb)
  by_cases hs : Srt z0
  rotate_left
  · have cM := fun W hb => cM0 W hb false (decide_eq_false hs)
    clear cM0 hs hA
    go_enter Try.func6, Try.ntmps6
    go_wp2_with (first
      | (go_at_call 12; ((with_reducible refine (cM _ (Below.refl _ _)).mono ?_); clear cM; rintro e v1 ⟨rfl, hb1⟩; have HB1 := Lib.hid hb1; clear hb1))
      | (go_at_call 10; ((with_reducible refine (lawake_any _).mono ?_); rintro e wa ⟨rfl, hba⟩; have HBa := Lib.hid (pb2 HB1.out hba); clear hba))
      | fail)
    go_ret
    exact ⟨by simp, HBa.out⟩
  have cM := fun W hb => cM0 W hb true (decide_eq_true hs)
  clear cM0
  by_cases hL2 : z1.length ≤ 6
  rotate_left
  · have h5 : (6 : Int) < (z1.length : Int) := by omega
    clear hs hA hL2
    go_enter Try.func6, Try.ntmps6
    go_wp2_with (first
      | (go_at_call 12; ((with_reducible refine (cM _ (Below.refl _ _)).mono ?_); clear cM; rintro e v1 ⟨rfl, hb1⟩; have HB1 := Lib.hid hb1; clear hb1))
      | (go_at_call 10; ((with_reducible refine (lawake_any _).mono ?_); rintro e wa ⟨rfl, hba⟩; have HBa := Lib.hid (pb2 HB1.out hba); clear hba))
      | fail)
    go_ret
    exact ⟨by simp, HBa.out⟩
  have h5 : ¬ (6 : Int) < (z1.length : Int) := by omega
  obtain ⟨f, hf⟩ : ∃ f : Nat → OpD, f = fun i => z1.getD i zOp := ⟨_, rfl⟩
  have HFA := Lib.hid (show ∀ n q, z1[n]? = some q → f n = q from fun n q hq => by rw [hf]; show z1.getD n zOp = q; rw [List.getD_eq_getElem?_getD, hq]; rfl)
  have HFW := Lib.hid (show ∀ n, n < z1.length → (f n).wf from fun n hn => by rw [hf]; show (z1.getD n zOp).wf; rw [List.getD_eq_getElem?_getD, List.getElem?_eq_getElem hn]; exact w1.2.2.2 _ (List.getElem_mem hn))
  obtain ⟨R, hR⟩ : ∃ R, R = stN z0 f := ⟨_, rfl⟩
  obtain ⟨A, hAn⟩ : ∃ A, A = anN z0 f := ⟨_, rfl⟩
  have HRL := Lib.hid (show ∀ n, (R n).length ≤ z0.length + n from fun n => by rw [hR]; exact stN_le z0 f n)
  have HAL := Lib.hid (show ∀ n, (A n).ps.length ≤ (R n).length from fun n => by rw [hR, hAn]; exact anN_ps z0 f n)
  have HR0 : Hid (R 0 = z0) := Lib.hid (by rw [hR]; rfl)
  have HRS := Lib.hid (show ∀ n, R (n + 1) = doP (R n) (f n).c (f n).k (f n).v from fun n => by rw [hR]; rfl)
  have HAS := Lib.hid (show ∀ n, A n = doA (R n) (f n).c (f n).k (f n).h from fun n => by rw [hR, hAn]; rfl)
  have HAN := Lib.hid hAn
  have HSR := Lib.hid (show ∀ n, Srt (R n) from fun n => by rw [hR]; exact stN_s hs f n)
  have HS := Lib.hid hs
  have HW := Lib.hid w1
  have HW0 := Lib.hid w0
  have HRG := Lib.hid (rng_w r0)
  clear hf hR hAn hs w1 w0 r0
  go_enter Try.func6, Try.ntmps6
  go_upto_region 3 with (first
    | (go_at_call 12; ((with_reducible refine (cM _ (Below.refl _ _)).mono ?_); clear cM; rintro e v1 ⟨rfl, hb1⟩; have HB1 := Lib.hid hb1; clear hb1))
    | fail)
  go_upto_region 4 with (first
    | (refine wpList_app rfl _ _ rfl (fun j => j < v1.heap.size) (.slice (some ⟨v1.heap.size, 0, none⟩) 0 0) [] z0 rfl (PRow.lit v1) (fun k hk => Nat.lt_of_lt_of_le hk (pal _).size) _ rfl (src_any (HW0.out.below (pb1 HB1.out _))) (by simp; omega) z0.length (by simp) z0 rfl ?_; intro am0 cm0 v2 hm2 hc2 hP2 hO2; have HB2 := Lib.hid (pb2 HB1.out (only_lt (pal _) hO2)); have HP2 := Lib.hid hP2; clear hP2 hO2)
    | fail)
  go_wp2_with (fail)
  have HL0 : Hid (LpA w (R 0) (calA (fun i => (z1.length : Int) - 1 - ((i : Nat) : Int)) f 0) (reA (fun i => (z1.length : Int) - 1 - ((i : Nat) : Int)) f A 0) am0 cm0 none 0 none 0 0 [] [] v2) := Lib.hid ⟨ERow.nil _ _, rfl, ERow.nil _ _, rfl, by rw [HR0.out]; exact HP2.out.sub (fun k _ hk => by simp [Value.ownBlock] at hk), fun k hk => by simp [Value.ownBlock] at hk, HB2.out⟩
  go_loopw [34, 5, 6, 7] (fun i m h r wr => ∃ (n : Nat) (am : Option Addr) (cm : Nat) (ah : Option Addr) (ch : Nat) (ar : Option Addr) (cr : Nat) (Mc Mr : List RE), n ≤ z1.length ∧ i = .int .i64 n ∧ m = .slice am (R n).length cm ∧ h = .slice ah n ch ∧ r = .slice ar n cr ∧ (∀ i, i < n → okOp (f i).c) ∧ LpA w (R n) (calA (fun i => (z1.length : Int) - 1 - ((i : Nat) : Int)) f n) (reA (fun i => (z1.length : Int) - 1 - ((i : Nat) : Int)) f A n) am cm ah ch ar cr n Mc Mr wr) (fun i _ _ _ _ => z1.length - (intOf i).toNat)
  case atStart => exact ⟨0, am0, cm0, none, 0, none, 0, [], [], Nat.zero_le _, rfl, by rw [HR0.out], rfl, rfl, fun i hi => by omega, HL0.out⟩
  case round =>
    clear HL0 HP2 HB1 HB2
    obtain ⟨n, am, cm, ah, ch, ar, cr, Mc, Mr, hn, rfl, rfl, rfl, rfl, hok, hlp⟩ := hrel
    have HOK := Lib.hid hok
    have HLP := Lib.hid hlp
    by_cases hlt : n < z1.length
    · obtain ⟨q, hq⟩ : ∃ q, z1[n]? = some q := ⟨_, List.getElem?_eq_getElem hlt⟩
      obtain ⟨bb, oo, rfl, c0, c1, c2, c3⟩ := (HW.out.below hlp.be).2.2.1 n q hq
      have hn0 : (0 : Int) ≤ (n : Int) := Int.natCast_nonneg n
      have hnI : (n : Int) < (z1.length : Int) := Int.ofNat_lt.2 hlt
      have HFN := Lib.hid (HFA.out n q hq)
      obtain ⟨oc, ok, oh, ov⟩ := q
      dsimp only at c0 c1 c2 c3
      have hb0 := pal (w := wr) (.cells #[.int .i64 oc, .int .i64 ok, .int .i64 oh, .int .i64 ov] 25)
      have HQ0 := Lib.hid (Bq.new wr #[.int .i64 oc, .int .i64 ok, .int .i64 oh, .int .i64 ov] 25)
      have HLP0 := Lib.hid (hlp.keep hb0)
      have HVW := Lib.hid (show ∀ k, (Value.slice ah n ch).ownBlock = some k → k < wr.heap.size from fun k hk => (hlp.er.row.lt k hk).2)
      clear hq hb0 hok hlp
      by_cases hop : okOp oc
      rotate_left
      · have cMo := fun W => rmayop_any oc ok oh ov W false (decide_eq_false hop)
        go_wp2_with (first
          | (go_at_call 11; ((with_reducible refine (cMo _).mono ?_); clear cMo; rintro e v4 ⟨rfl, hb4⟩; have HLP1 := Lib.hid (HLP0.out.keep hb4); clear hb4))
          | (go_at_call 10; ((with_reducible refine (lawake_any _).mono ?_); rintro e wa ⟨rfl, hba⟩; have HBa := Lib.hid (pb2 HLP1.out.be hba); clear hba))
          | fail)
        go_ret
        exact ⟨by simp, HBa.out⟩
      have HOPN := Lib.hid hop
      have cMo := fun W => rmayop_any oc ok oh ov W true (decide_eq_true hop)
      have hAN : A n = doA (R n) oc ok oh := by rw [HAS.out n, HFN.out]
      have hRN : R (n + 1) = doP (R n) oc ok ov := by rw [HRS.out n, HFN.out]
      have cd := fun W h => rdo_any am cm (R n) oc ok oh ov W h (by have := HRL.out n; omega)
      rw [← hAN, ← hRN] at cd
      unfold DoIs Ad.val at cd
      clear hop hAN hRN
      obtain ⟨An, hAe⟩ : ∃ An, An = A n := ⟨_, rfl⟩
      rw [← hAe] at cd
      have HAE := Lib.hid hAe
      clear hAe
      go_upto_region 11 with (first
        | (go_at_call 11; ((with_reducible refine (cMo _).mono ?_); clear cMo; rintro e v4 ⟨rfl, hb4⟩; have HLP1 := Lib.hid (HLP0.out.keep hb4); have HQ1 := Lib.hid (HQ0.out.keep hb4); have HV4 := Lib.hid (show ∀ k, (Value.slice ah n ch).ownBlock = some k → k < v4.heap.size from fun k hk => (HLP1.out.er.row.lt k hk).2); have p0 := HQ1.out.at_ 0 _ rfl; have p1 := HQ1.out.at_ 1 _ rfl; have p2 := HQ1.out.at_ 2 _ rfl; have p3 := HQ1.out.at_ 3 _ rfl; clear hb4 c0 c1 c2 c3))
        | (go_at_call 14; ((with_reducible refine (cd _ (HLP1.out.pr.prs rfl)).mono ?_); clear cd p0 p1 p2 p3; rintro e v5 ⟨an5, cn5, aa, ca, rfl, hp5, ha5, hb5⟩; have HLP2 := Lib.hid ((HLP1.out.keep hb5).keep (pal (w := v5) (.cells #[.int .i64 An.err, .bool An.ok, .int .i64 An.k, .int .i64 An.v, .int .i64 An.n, .slice aa An.ps.length ca] 34))); have HQ2 := Lib.hid ((HQ1.out.keep hb5).keep (pal (w := v5) (.cells #[.int .i64 An.err, .bool An.ok, .int .i64 An.k, .int .i64 An.v, .int .i64 An.n, .slice aa An.ps.length ca] 34))); have HT2 := Lib.hid (Bq.new v5 #[.int .i64 An.err, .bool An.ok, .int .i64 An.k, .int .i64 An.v, .int .i64 An.n, .slice aa An.ps.length ca] 34); have HP5 := Lib.hid (hp5.below (pal (w := v5) (.cells #[.int .i64 An.err, .bool An.ok, .int .i64 An.k, .int .i64 An.v, .int .i64 An.n, .slice aa An.ps.length ca] 34))); have HA5 := Lib.hid (ha5.below (pal (w := v5) (.cells #[.int .i64 An.err, .bool An.ok, .int .i64 An.k, .int .i64 An.v, .int .i64 An.n, .slice aa An.ps.length ca] 34))); have HZ5 := Lib.hid hb5.size; have p0 := (HQ1.out.keep hb5).at_ 0 _ rfl; have p1 := (HQ1.out.keep hb5).at_ 1 _ rfl; have p2 := (HQ1.out.keep hb5).at_ 2 _ rfl; have p3 := (HQ1.out.keep hb5).at_ 3 _ rfl; have hql := (HQ1.out.keep hb5).lt; clear hp5 ha5 hb5))
        | fail)
      have HLP3 := Lib.hid (HLP2.out.keep (pal (w := (v5.alloc (.cells #[.int .i64 An.err, .bool An.ok, .int .i64 An.k, .int .i64 An.v, .int .i64 An.n, .slice aa An.ps.length ca] 34))) (.cells #[.int .i64 ((z1.length : Int) - 1 - (n : Int)), .bool false, .int .i64 oc, .int .i64 ok, .int .i64 oh, .int .i64 ov, .int .i64 0, .bool false, .int .i64 0, .int .i64 0, .int .i64 0, .slice none 0 0] 36)))
      have HEV := Lib.hid (Bq.new (v5.alloc (.cells #[.int .i64 An.err, .bool An.ok, .int .i64 An.k, .int .i64 An.v, .int .i64 An.n, .slice aa An.ps.length ca] 34)) #[.int .i64 ((z1.length : Int) - 1 - (n : Int)), .bool false, .int .i64 oc, .int .i64 ok, .int .i64 oh, .int .i64 ov, .int .i64 0, .bool false, .int .i64 0, .int .i64 0, .int .i64 0, .slice none 0 0] 36)
      rw [show (v5.alloc (.cells #[.int .i64 An.err, .bool An.ok, .int .i64 An.k, .int .i64 An.v, .int .i64 An.n, .slice aa An.ps.length ca] 34)).heap.size = v5.heap.size + 1 by simp] at HEV
      have HP6 := Lib.hid (HP5.out.below (pal (w := (v5.alloc (.cells #[.int .i64 An.err, .bool An.ok, .int .i64 An.k, .int .i64 An.v, .int .i64 An.n, .slice aa An.ps.length ca] 34))) (.cells #[.int .i64 ((z1.length : Int) - 1 - (n : Int)), .bool false, .int .i64 oc, .int .i64 ok, .int .i64 oh, .int .i64 ov, .int .i64 0, .bool false, .int .i64 0, .int .i64 0, .int .i64 0, .slice none 0 0] 36)))
      have HA6 := Lib.hid (HA5.out.below (pal (w := (v5.alloc (.cells #[.int .i64 An.err, .bool An.ok, .int .i64 An.k, .int .i64 An.v, .int .i64 An.n, .slice aa An.ps.length ca] 34))) (.cells #[.int .i64 ((z1.length : Int) - 1 - (n : Int)), .bool false, .int .i64 oc, .int .i64 ok, .int .i64 oh, .int .i64 ov, .int .i64 0, .bool false, .int .i64 0, .int .i64 0, .int .i64 0, .slice none 0 0] 36)))
      have HQ6 := Lib.hid (HQ2.out.keep (pal (w := (v5.alloc (.cells #[.int .i64 An.err, .bool An.ok, .int .i64 An.k, .int .i64 An.v, .int .i64 An.n, .slice aa An.ps.length ca] 34))) (.cells #[.int .i64 ((z1.length : Int) - 1 - (n : Int)), .bool false, .int .i64 oc, .int .i64 ok, .int .i64 oh, .int .i64 ov, .int .i64 0, .bool false, .int .i64 0, .int .i64 0, .int .i64 0, .slice none 0 0] 36)))
      have HT6 := Lib.hid (HT2.out.keep (pal (w := (v5.alloc (.cells #[.int .i64 An.err, .bool An.ok, .int .i64 An.k, .int .i64 An.v, .int .i64 An.n, .slice aa An.ps.length ca] 34))) (.cells #[.int .i64 ((z1.length : Int) - 1 - (n : Int)), .bool false, .int .i64 oc, .int .i64 ok, .int .i64 oh, .int .i64 ov, .int .i64 0, .bool false, .int .i64 0, .int .i64 0, .int .i64 0, .slice none 0 0] 36)))
      have HPS : Hid (∀ m ∈ [(⟨⟨((z1.length : Int) - 1 - (n : Int)), false, ⟨oc, ok, oh, ov⟩, zAd⟩, none, 0⟩ : RE)], Prs ((v5.alloc (.cells #[.int .i64 An.err, .bool An.ok, .int .i64 An.k, .int .i64 An.v, .int .i64 An.n, .slice aa An.ps.length ca] 34)).alloc (.cells #[.int .i64 ((z1.length : Int) - 1 - (n : Int)), .bool false, .int .i64 oc, .int .i64 ok, .int .i64 oh, .int .i64 ov, .int .i64 0, .bool false, .int .i64 0, .int .i64 0, .int .i64 0, .slice none 0 0] 36)) m.a m.c m.e.a.ps ∧ (m.e.a.ps ≠ [] → ∀ b o sp, m.a = some ⟨b, o, sp⟩ → ¬ (fun _ => False) b ∧ (Value.slice ah n ch).ownBlock ≠ some b)) := Lib.hid (fun m hm => by
        obtain rfl := List.mem_singleton.1 hm
        exact ⟨Prs.nil _, fun h => absurd rfl h⟩)
      have hml := HLP2.out.lens
      have HL9 := Lib.hid (show Mc.length + [(⟨⟨((z1.length : Int) - 1 - (n : Int)), false, ⟨oc, ok, oh, ov⟩, zAd⟩, none, 0⟩ : RE)].length ≤ 100000 by rw [← hml.1]; simp; omega)
      have HL10 := Lib.hid (show Mc.length + [(⟨⟨((z1.length : Int) - 1 - (n : Int)), false, ⟨oc, ok, oh, ov⟩, zAd⟩, none, 0⟩ : RE)].length = n + 1 by rw [← hml.1]; simp)
      have HL11 := Lib.hid (show [(⟨⟨((z1.length : Int) - 1 - (n : Int)), true, ⟨oc, ok, oh, ov⟩, An⟩, aa, ca⟩ : RE)].length + Mr.length ≤ 100000 by rw [← hml.2]; simp; omega)
      have HL12 := Lib.hid (show [(⟨⟨((z1.length : Int) - 1 - (n : Int)), true, ⟨oc, ok, oh, ov⟩, An⟩, aa, ca⟩ : RE)].length + Mr.length = n + 1 by rw [← hml.2]; simp; omega)
      have HML := Lib.hid hml
      clear hml
      go_upto_region 12 with (first
        | (refine wpList_evs rfl _ _ rfl (fun _ => False) (.slice ah n ch) Mc [⟨⟨((z1.length : Int) - 1 - (n : Int)), false, ⟨oc, ok, oh, ov⟩, zAd⟩, none, 0⟩] rfl HLP3.out.er (fun _ h => h.elim) HPS.out _ rfl (src_ev HEV.out) HL9.out (n + 1) HL10.out ?_; intro ao2 lc2 We h1 h2 hE hO hK; have HNX := Lib.hid (HLP3.out.push HP6.out (fun k hk => HV4.out k hk) hE hO hK); have HAX := Lib.hid (HLP3.out.other HA6.out (fun k hk => HV4.out k hk) hO hK); have HQX := Lib.hid (HQ6.out.only hO (fun x => absurd (HVW.out _ x) (Nat.lt_irrefl _))); have HTX := Lib.hid (HT6.out.only hO (fun x => absurd (HV4.out _ x) (Nat.not_lt.2 HZ5.out))); clear h1 h2 hE hO hK)
        | fail)
      clear HLP HLP0 HLP1 HLP2 HLP3 HQ0 HQ1 HQ2 HQ6 HT2 HT6 HP5 HP6 HA5 HA6 HEV HPS p0 p1 p2 p3 hql
      have HNY := Lib.hid (HNX.out.keep (pal (w := We) (.cells #[.int .i64 ((z1.length : Int) - 1 - (n : Int)), .bool true, .int .i64 oc, .int .i64 ok, .int .i64 oh, .int .i64 ov, .int .i64 An.err, .bool An.ok, .int .i64 An.k, .int .i64 An.v, .int .i64 An.n, .slice aa An.ps.length ca] 36)))
      have HON := Lib.hid (HNX.out.one (m := (⟨⟨((z1.length : Int) - 1 - (n : Int)), true, ⟨oc, ok, oh, ov⟩, An⟩, aa, ca⟩ : RE)) (cs := #[.int .i64 ((z1.length : Int) - 1 - (n : Int)), .bool true, .int .i64 oc, .int .i64 ok, .int .i64 oh, .int .i64 ov, .int .i64 An.err, .bool An.ok, .int .i64 An.k, .int .i64 An.v, .int .i64 An.n, .slice aa An.ps.length ca]) rfl HAX.out)
      have HPR := Lib.hid (HNX.out.pre (.cells #[.int .i64 ((z1.length : Int) - 1 - (n : Int)), .bool true, .int .i64 oc, .int .i64 ok, .int .i64 oh, .int .i64 ov, .int .i64 An.err, .bool An.ok, .int .i64 An.k, .int .i64 An.v, .int .i64 An.n, .slice aa An.ps.length ca] 36))
      have p0 := HQX.out.at_ 0 _ rfl
      have p1 := HQX.out.at_ 1 _ rfl
      have p2 := HQX.out.at_ 2 _ rfl
      have p3 := HQX.out.at_ 3 _ rfl
      have hql := HQX.out.lt
      have q0 := HTX.out.at_ 0 _ rfl
      have q1 := HTX.out.at_ 1 _ rfl
      have q2 := HTX.out.at_ 2 _ rfl
      have q3 := HTX.out.at_ 3 _ rfl
      have q4 := HTX.out.at_ 4 _ rfl
      have q5 := HTX.out.at_ 5 _ rfl
      have htl := HTX.out.lt
      go_upto_region 13 with (first
        | (refine wpList_evs rfl _ _ rfl (fun j => (Value.slice ao2 (n + 1) lc2).ownBlock = some j) (.slice (some ⟨We.heap.size, 0, none⟩) 1 1) [⟨⟨((z1.length : Int) - 1 - (n : Int)), true, ⟨oc, ok, oh, ov⟩, An⟩, aa, ca⟩] Mr rfl HON.out (fun k hk => HNY.out.own k hk) HPR.out _ rfl HNY.out.rr.src HL11.out (n + 1) HL12.out ?_; intro ao3 lc3 Wf h1 h2 hE hO hK; have HNZ := Lib.hid (HNX.out.push (pal (w := We) (.cells #[.int .i64 ((z1.length : Int) - 1 - (n : Int)), .bool true, .int .i64 oc, .int .i64 ok, .int .i64 oh, .int .i64 ov, .int .i64 An.err, .bool An.ok, .int .i64 An.k, .int .i64 An.v, .int .i64 An.n, .slice aa An.ps.length ca] 36)) (Nat.le_refl _) hE hO); clear h1 h2 hE hO hK)
        | fail)
      clear HNX HNY HON HPR HQX HTX HAX p0 p1 p2 p3 hql q0 q1 q2 q3 q4 q5 htl
      go_wp2_with (fail)
      go_roundw
      case rel =>
        refine ⟨n + 1, an5, cn5, ao2, lc2, ao3, lc3, Mc ++ [⟨⟨((z1.length : Int) - 1 - (n : Int)), false, ⟨oc, ok, oh, ov⟩, zAd⟩, none, 0⟩], [⟨⟨((z1.length : Int) - 1 - (n : Int)), true, ⟨oc, ok, oh, ov⟩, An⟩, aa, ca⟩] ++ Mr, by omega, by go_num, rfl, rfl, rfl, fun i hi => ?_, ?_⟩
        · by_cases e : i = n
          · subst e; rw [HFN.out]; exact HOPN.out
          · exact HOK.out i (by omega)
        · have h := HNZ.out
          have e1 : calA (fun i => (z1.length : Int) - 1 - ((i : Nat) : Int)) f (n + 1) = calA (fun i => (z1.length : Int) - 1 - ((i : Nat) : Int)) f n ++ [(⟨⟨((z1.length : Int) - 1 - (n : Int)), false, ⟨oc, ok, oh, ov⟩, zAd⟩, none, 0⟩ : RE)].map (fun m => m.e) := by
            show _ ++ [_] = _
            rw [HFN.out]; rfl
          have e2 : reA (fun i => (z1.length : Int) - 1 - ((i : Nat) : Int)) f A (n + 1) = [(⟨⟨((z1.length : Int) - 1 - (n : Int)), true, ⟨oc, ok, oh, ov⟩, An⟩, aa, ca⟩ : RE)].map (fun m => m.e) ++ reA (fun i => (z1.length : Int) - 1 - ((i : Nat) : Int)) f A n := by
            show _ :: _ = _
            rw [HFN.out, ← HAE.out]; rfl
          rw [e1, e2]
          exact h
      case measure => simp [intOf]; omega
    · obtain rfl : n = z1.length := by omega
      clear hok hlp
      have HO := Lib.hid (atA_ord (th := (fun i => (z1.length : Int) - 1 - ((i : Nat) : Int))) (f := f) (A := A) (n := z1.length) HS.out (fun i hi => by unfold okT; omega) (fun i j hi hj e => by omega) (by omega) HOK.out (fun i hi => by rw [HAS.out]; exact doA_err (HSR.out i) (HOK.out i hi) _ _) (fun i hi => by rw [HAN.out]))
      have hps : ∀ e ∈ calA (fun i => (z1.length : Int) - 1 - ((i : Nat) : Int)) f z1.length ++ reA (fun i => (z1.length : Int) - 1 - ((i : Nat) : Int)) f A z1.length, e.a.ps.length ≤ 1100000 := fun e he => by
        obtain ⟨i, hi, _, h⟩ := atA_mem he
        rcases h with h | h <;> rw [h]
        · exact Nat.zero_le _
        · have h1 := HAL.out i; have h2 := HRL.out i; omega
      have hws : ∀ e ∈ calA (fun i => (z1.length : Int) - 1 - ((i : Nat) : Int)) f z1.length ++ reA (fun i => (z1.length : Int) - 1 - ((i : Nat) : Int)) f A z1.length, i64w e.o.v := fun e he => by
        obtain ⟨i, hi, h, _⟩ := atA_mem he
        rw [h]; exact op_w (HFW.out i hi)
      have cF := fun W ao co (hE : Es W ao co (calA (fun i => (z1.length : Int) - 1 - ((i : Nat) : Int)) f z1.length ++ reA (fun i => (z1.length : Int) - 1 - ((i : Nat) : Int)) f A z1.length)) (hb : Below w.heap.size w W) => find_any a0 ao cap0 co z0 _ W (HW0.out.below hb) hE (by omega) (by rw [List.length_append, calA_len, reA_len]; omega) hps HRG.out hws
      simp only [List.length_append, calA_len, reA_len] at cF
      clear hps hws
      have hml := HLP.out.lens
      have HL9 := Lib.hid (show Mc.length + Mr.length ≤ 100000 by rw [← hml.1, ← hml.2]; omega)
      have HL10 := Lib.hid (show Mc.length + Mr.length = z1.length + z1.length by rw [← hml.1, ← hml.2])
      clear hml
      have HPR := Lib.hid HLP.out.pre
      go_wp2_with (first
        | (refine wpList_evs rfl _ _ rfl (fun _ => False) (.slice ah z1.length ch) Mc Mr rfl HLP.out.er (fun _ h => h.elim) HPR.out _ rfl HLP.out.rr.src HL9.out (z1.length + z1.length) HL10.out ?_; intro ao2 lc2 We h1 h2 hE hO hK; have hes := hE.ns.2; rw [List.map_append, HLP.out.em, HLP.out.rm] at hes; have HES := Lib.hid hes; have HBE := Lib.hid (HLP.out.be.trans (hO.below HLP.out.ow HLP.out.be.size)); clear h1 h2 hE hO hK hes)
        | (go_at_call 13; ((with_reducible refine (cF _ _ _ HES.out HBE.out).mono ?_); clear cF; rintro e v6 ⟨B, E, ao, c, l, rfl, hb6, h1, h2, h5, h6, h7⟩; obtain rfl : E = 0 := h1 HO.out.1; obtain rfl : B = true := (h5 HO.out.1).2 HO.out.2; have HB6 := Lib.hid (pb2 HBE.out hb6); clear hb6 h1 h2 h5 h6 h7))
        | (go_at_call 10; ((with_reducible refine (lawake_any _).mono ?_); rintro e wa ⟨rfl, hba⟩; have HBa := Lib.hid (pb2 HB6.out hba); clear hba))
        | fail)
      go_ret
      exact ⟨by simp, HBa.out⟩

set_option maxRecDepth 100000 in
theorem lifted (os : Os) (started : os.Started) (H : Type) (enc : TypeId × Value → H) :
    ReturnsInHanded {} Try.checked os 6 .any (Rows.linAtOnceSpec.pre6 enc Try.prog Try.f6 Rows.linAtOnceRow.domain false) (Rows.linAtOnceSpec.post enc Try.prog Try.f6 false true false false) := by
  refine returnsInHanded_of_change (C := Try.checked) own started (by kernel_rfl) Try.func6
    (ChangeSpec.witness6 (enc := enc) (C := Try.checked) false ⟨#[], #[.slice none 0 0, .slice none 0 0], []⟩ 8 (by kernel_rfl) (by kernel_rfl) (by kernel_rfl) (by kernel_rfl)) ?_
  intro W base args ds gs before hval0 hW hcnd _
  have hval : ∀ (j : Nat) t v, Try.f6.params[j]? = some t → args[j]? = some v → Value.okWide Try.prog W .any base t v := hval0
  have hW' := hW
  obtain ⟨p, q, hA0, hV, rfl, hfz, hnd⟩ := hW
  have hA : DataW.TrodAll enc Try.prog W 0 (fun _ => true) true Try.f6.params.toList args.toList ds p := hA0
  rw [Try.params6] at hA hval
  obtain ⟨v0, vs0, d0, ds0, p0, q0, hargs, rfl, rfl, h0, r0⟩ := trodAll_cons hA
  obtain ⟨v1, vs1, d1, ds1, p1, q1, rfl, rfl, rfl, h1, r1⟩ := trodAll_cons r0
  obtain ⟨rfl, rfl, rfl⟩ := trodAll_nil r1
  obtain rfl : args = #[v0, v1] := by cases args; simp_all
  obtain ⟨rfl, rfl⟩ := trodVars_none hV
  have k0 := h0
  have lt0 : ∀ x ∈ p0, x.block < W.heap.size := by obtain ⟨m, hm⟩ := k0; exact DataW.trod_lt m _ _ _ hm
  obtain ⟨b0, l0, c0, rfl⟩ := okWide_slice Try.underlying22 (hval 0 22 v0 rfl rfl)
  obtain ⟨a0, cap0, z0, e0, w0, g0⟩ := open_pairsw (enc := enc) (w := W) (v := .slice b0 l0 c0) (fuel := h0.choose) (by simpa [Value.cells] using h0.choose_spec)
  rw [e0] at hval k0 h0 hW' hval0 hA0
  have k1 := h1
  have lt1 : ∀ x ∈ p1, x.block < W.heap.size := by obtain ⟨m, hm⟩ := k1; exact DataW.trod_lt m _ _ _ hm
  obtain ⟨b1, l1, c1, rfl⟩ := okWide_slice Try.underlying46 (hval 1 46 v1 rfl rfl)
  obtain ⟨a1, cap1, z1, e1, w1⟩ := open_ops (enc := enc) (w := W) (v := .slice b1 l1 c1) (fuel := h1.choose) (by simpa [Value.cells] using h1.choose_spec)
  rw [e1] at hval k1 h1 hW' hval0 hA0
  clear hA0 hval0
  rw [e0]; rw [e1]; refine (walk a0 cap0 z0 a1 cap1 z1 W w0 g0 w1).mono fun e W' ⟨he, bel⟩ => ?_
  subst he
  exact ⟨_, rfl, _, _, _, [], _, [], hW', trodAll_mk1 (shut_bool Try.underlying4 _), (trodAll_cons_mk (Below.trod laidOut (by kernel_rfl) (of_decide_eq_true (by kernel_rfl)) k0 bel lt0) (trodAll_cons_mk (Below.trod laidOut (by kernel_rfl) (of_decide_eq_true (by kernel_rfl)) k1 bel lt1) trodAll_mk0)), rfl, bel.frame _, fun h => by cases h⟩

theorem over : Rows.linAtOnceRow.holds Try.pinned (OpenSpec.ofChange Rows.linAtOnceSpec) :=
  OpenClaim.holds_of_wide 6 Try.f6 rfl rfl rfl rfl rfl rfl rfl ⟨rfl, rfl, rfl, rfl, rfl⟩ rfl rfl rfl rfl rfl (by kernel_rfl) Try.func6 (by kernel_rfl)
    (of_decide_eq_true (by kernel_rfl)) (by unfold Func.isWrapper; first | (rw [if_pos (by decide +kernel)]; kernel_rfl) | (rw [if_neg (by decide +kernel)]; exact ⟨rfl, rfl⟩))
    (fun os started H enc _ => lifted os started H enc)

theorem linAtOnceHolds : Rows.LinAtOnceSaid := over
#print axioms linAtOnceHolds
end Go.Proofs.Ytadfnbmogobopaa.linAtOnce
