/- 'osierlaw5.PutOrder' returns true for every argument. No condition. -/
import Derived.Test.YtdonidohmenccaaRows
import Derived.Test.YtdonidohmenccaaPtO
import Derived.Test.YtdonidohmenccaaPtAwk
import Derived.Test.YtdonidohmenccaaPtA
import Derived.Test.YtdonidohmenccaaNArgs
import Derived.Test.YtdonidohmenccaaNSays
import Derived.Deep.RegionHeld3
import Derived.LoopTactic
import Derived.WalkKit
import Derived.ProofKit
import Derived.OpenShut
import Derived.ChangeOld
import Derived.Below
namespace Go.Proofs.Ytdonidohmenccaa.putOrder
open Go.ChangeShapes Go.WideShapes Go.ChangeAt Go.RowKit
set_option linter.all false

theorem own : ownKnob Try.prog.godebug = none := by kernel_rfl
theorem laidOut : laidOutB Try.prog = true := by kernel_rfl

/-- What the loop that gathers the keys keeps. -/
structure KL (w wr : World) (out : Value) (ks : List Pr) : Prop where
  row : PRow wr (fun j => j < w.heap.size) out ks
  b : Below w.heap.size w wr
  f : Fun ks
theorem KL.push {w wr w1 : World} {out out' : Value} {ks : List Pr} {q : Pr} (h : KL w wr out ks) (hf : findL ks q.1 = none)
    (hR : PRow w1 (fun j => j < w.heap.size) out' (ks ++ [q])) (hO : Only (fun j => ¬ (j < w.heap.size)) wr w1) : KL w w1 out' (ks ++ [q]) :=
  ⟨hR, only_below (w0 := w) h.b hO (fun j hj => hj), h.f.snoc q hf⟩
theorem PRow.addr {w : World} {S : Nat → Prop} {ao : Option Addr} {n cap : Nat} {l : List Pr} (h : PRow w S (.slice ao n cap) l) : ∀ b o, ao = some ⟨b, o, none⟩ → b < w.heap.size ∧ o = 0 := by
  rintro b o rfl
  rcases h.row.2 with ⟨e, _⟩ | ⟨g, cap', cur, e, _, hg, _⟩
  · cases e
  · cases e
    exact ⟨(Array.getElem?_eq_some_iff.1 hg).1, rfl⟩
theorem room_ok (m : Nat) {n k : Nat} (h : n ≤ k) (h2 : m + k * (k + 1) ≤ 60000) : ((m + n * (n + 1) : Nat) : Int) ≤ 60000 := by
  have h3 := Nat.mul_le_mul h (Nat.succ_le_succ h)
  exact Int.ofNat_le.2 (Nat.le_trans (Nat.add_le_add_left h3 m) h2)
theorem held_drew {w0 w : World} {p : Nat} {room st : Int} {L : List It} (h : Held w0 w p room st L) : ∀ W', W' = w.drew → Held w0 W' p room st L := by
  rintro W' rfl; exact h.below (Below.refl _ w).drew
theorem PRow.nilOr {w : World} {S : Nat → Prop} {ao : Option Addr} {n cap : Nat} {l : List Pr} (h : PRow w S (.slice ao n cap) l) : (ao = none ∧ cap = 0 ∧ l = []) ∨ (∃ g, ao = some ⟨g, 0, none⟩) := by
  rcases h.row.2 with ⟨e, h0⟩ | ⟨g, cap', cur, e, _⟩
  · cases e; exact .inl ⟨rfl, rfl, List.eq_nil_of_length_eq_zero h0⟩
  · cases e; exact .inr ⟨g, rfl⟩

set_option maxRecDepth 100000 in
set_option maxHeartbeats 12800000 in
theorem walk (a0 : Option Addr) (cap0 : Nat) (z0 : List Pr) (a1 : Int) (w : World) (w0 : Prs w a0 cap0 z0) (r0 : Rng z0) (w1 : (Lit.int .i64 a1).wf = true) :
    Calls Try.prog 4 #[.slice a0 z0.length cap0, .int .i64 a1] w fun e w' => e = .returned (.bool true) ∧ Below w.heap.size w w' := by
  have HP0 := Lib.hid w0
  have hc0 := w0.1
  have hcm := w0.2.1
  clear w0 r0
  unfold maxLen at hcm
  by_cases hlen : 40 < z0.length
  · have hl' : (40 : Int) < (z0.length : Int) := by omega
    have cw := pawake_any w
    go_enter Try.func4, Try.ntmps4
    go_wp2_with (go_at_call 23; ((with_reducible refine cw.mono ?_); clear cw; rintro e W1 ⟨rfl, hb⟩))
    go_ret
    exact ⟨rfl, hb⟩
  · have hl' : ¬ (40 : Int) < (z0.length : Int) := by omega
    go_enter Try.func4, Try.ntmps4
    go_wp2_with (fail)
    go_loopw [5, 25] (fun out i wr => ∃ (n : Nat) (ao : Option Addr) (cp m : Nat) (ks : List Pr), n ≤ z0.length ∧ i = .int .i64 n ∧ out = .slice ao m cp ∧ m = ks.length ∧ m ≤ n ∧ KL w wr out ks) (fun _ i _ => z0.length - (intOf i).toNat)
    case atStart => exact ⟨0, none, 0, 0, [], Nat.zero_le _, rfl, rfl, rfl, Nat.le_refl _, ⟨PRow.nil _ _, Below.refl _ _, Fun.nil⟩⟩
    case round =>
      obtain ⟨n, ao, cp, m, ks, hn, rfl, rfl, rfl, hm, hK⟩ := hrel
      by_cases hlt : n < z0.length
      · obtain ⟨q, hq⟩ : ∃ q, z0[n]? = some q := ⟨_, List.getElem?_eq_getElem hlt⟩
        obtain ⟨b, o, rfl, c0, c1⟩ := (HP0.out.below hK.b).2.2 n q hq
        obtain ⟨x0, x1⟩ := q
        dsimp only at c0 c1
        clear hq
        have hal := (Below.refl wr.heap.size wr).alloc (Nat.le_refl _) (.cells #[.int .i64 x0, .int .i64 x1] 24)
        have cf := find_any ao cp ks x0 _ ((hK.row.prs rfl).below hal)
        have HK := Lib.hid hK
        clear hK hal
        go_wp2_with (fail)
        refine cf.mono ?_
        clear cf
        rintro e w2 ⟨k, rfl, hf, hb⟩
        have hW2 := (Below.refl wr.heap.size wr).alloc (Nat.le_refl _) (.cells #[.int .i64 x0, .int .i64 x1] 24)
        have hbw := hW2.trans (hb.mono hW2.size)
        have T2 := (Two.new wr x0 x1 24).keep hb
        have d0 := T2.c0
        have d1 := T2.c1
        have HB := Lib.hid hbw
        clear hb hW2 hbw T2
        rcases hf with ⟨rfl, hf⟩ | ⟨i, q, rfl, _, _, _⟩
        · have HF := Lib.hid hf
          clear hf
          have HR := Lib.hid (HK.out.row.below HB.out)
          have HK2 : Hid (KL w w2 (.slice ao ks.length cp) ks) := Lib.hid ⟨HR.out, HK.out.b.trans (HB.out.mono HK.out.b.size), HK.out.f⟩
          have hbs := HB.out.size
          have hws := HK.out.b.size
          have HS : Hid (∀ j, j < w.heap.size → j < w2.heap.size) := Lib.hid (fun j hj => by omega)
          go_wp2_with (first | (at_builtin; refine wpList_push rfl (.tmp 34) (.tmp 36) rfl (fun j => j < w.heap.size) _ ks x0 x1 rfl HR.out HS.out _ rfl (by simp) (by omega) ?_; intro ao1 cp1 w3 hm1 hc1 hR1 hk1 hO1; have HN := Lib.hid (HK2.out.push (q := (x0, x1)) HF.out hR1 hO1); clear hR1 hk1 hO1))
          go_roundw
          case rel => exact ⟨n + 1, ao1, cp1, ks.length + 1, ks ++ [(x0, x1)], by omega, by go_num, rfl, by simp, by omega, HN.out⟩
          case measure => simp [intOf]; omega
        · have hi0 : ¬ ((i : Int) < 0) := by omega
          go_wp2_with (fail)
          go_roundw
          case rel => exact ⟨n + 1, ao, cp, ks.length, ks, by omega, by go_num, rfl, rfl, by omega, ⟨HK.out.row.below HB.out, HK.out.b.trans (HB.out.mono HK.out.b.size), HK.out.f⟩⟩
          case measure => simp [intOf]; omega
      · obtain rfl : n = z0.length := by omega
        have HP := Lib.hid (hK.row.prs rfl)
        have HA := Lib.hid (PRow.addr hK.row)
        have hform : (ao = none ∧ cp = 0 ∧ ks = []) ∨ (∃ g, ao = some ⟨g, 0, none⟩) := PRow.nilOr hK.row
        have FORM := Lib.hid hform
        clear hform
        have HF := Lib.hid hK.f
        have HBW := Lib.hid hK.b
        have hk40 : ks.length ≤ 40 := by omega
        clear hK hc0 hcm HP0 hlen hl'
        have hcp1 := HP.out.1
        have hcp2 := HP.out.2.1
        unfold maxLen at hcp2
        obtain ⟨nk, hnk, hum⟩ := umod a1 ((ks.length : Int) + 1) (by omega) (by omega)
        have hnk2 : (nk : Int) ≤ (ks.length : Int) := by omega
        have hnk3 : (nk : Int) ≤ (cp : Int) := by omega
        have hnk0 : (0 : Int) ≤ (nk : Int) := by omega
        have HU := Lib.hid hum
        clear hum
        go_wp2_with (fail)
        rw [HU.out]
        clear HU
        refine (new_held 60000 60000 wr wr (Below.refl _ _) (by decide)).mono ?_
        rintro e W2 ⟨p, rfl, h2⟩
        go_wp2_with (fail)
        refine (of_ok h2 h2.a (fun _ hk => hk) ao cp ks.length ks (HP.out.below h2.b) rfl (fun b o e hk => by have := HA.out b o e; omega) (by omega) (room_ok 0 hk40 (by decide))).mono ?_
        rintro e W3 ⟨t, M1, rfl, h3, hM1, hT1⟩
        have M1' := Lib.hid (show M1.length ≤ 1640 from Nat.le_trans hM1 (Nat.mul_le_mul hk40 (show ks.length + 1 ≤ 41 by omega)))
        have T1 := Lib.hid hT1
        clear hM1 hT1 h2
        go_wp2_with (fail)
        obtain ⟨n1, hn1⟩ : ∃ n1, (ks.drop nk).length = n1 := ⟨_, rfl⟩
        have hn1' := hn1
        rw [List.length_drop] at hn1'
        have hn2 : (ks.drop nk).length + (ks.take nk).length = ks.length := by rw [List.length_drop, List.length_take]; omega
        have HN1 := Lib.hid hn1
        have HN2 := Lib.hid hn2
        obtain ⟨tk, htk⟩ : ∃ tk, ks.drop nk ++ ks.take nk = tk := ⟨_, rfl⟩
        have LTK := Lib.hid (show tk.length = ks.length by rw [← htk, List.length_append]; exact hn2)
        have PTK := Lib.hid (show putL [] tk = putL [] ks by rw [← htk]; exact putL_turn HF.out nk)
        have HTK := Lib.hid htk
        have b3 : Below W3.heap.size W3 (W3.alloc (.cells #[] 24)) := (Below.refl _ _).alloc (Nat.le_refl _) _
        have B3 := Lib.hid (b3.trans ((Below.refl _ _).drew.mono b3.size))
        have R3 := Lib.hid ((PRow.lit W3).below (Below.refl _ _).drew)
        have HS3 : Hid (∀ W : World, W3.heap.size ≤ W.heap.size → ∀ j, j < W3.heap.size → j < W.heap.size) := Lib.hid (fun W hW j hj => by omega)
        clear hn1 hn2 b3 htk
        rcases FORM.out with ⟨rfl, rfl, rfl⟩ | ⟨g, rfl⟩
        · obtain rfl : nk = 0 := by simp at hnk; omega
          clear hn1' HN1 HN2 LTK PTK HTK hnk hnk2 hnk3 hnk0 hcp1 hcp2 HA
          have hm40 : 40 * (40 + 1) ≤ 1640 := by decide
          go_region_held3 (fun W => True) (exact True.intro)
            (first
              | (refine step_app rfl (.tmp 56) (.tmp 59) rfl (fun j => j < W3.heap.size) _ [] [] rfl R3.out (HS3.out _ B3.out.size) (.slice none 0 0) rfl src_none (by simp) 0 rfl [] rfl ?_; intro ao1 cp1 w4 hm1 hc1 hR1 hO1; have B4 := Lib.hid (only_lt B3.out hO1); have R4 := Lib.hid hR1; clear hR1 hO1; unfold maxLen at hm1)
              | (refine step_app rfl (.tmp 60) (.tmp 63) rfl (fun j => j < W3.heap.size) (.slice ao1 0 cp1) [] [] rfl R4.out (HS3.out _ B4.out.size) (.slice none 0 0) rfl src_none (by simp) 0 rfl [] rfl ?_; intro ao2 cp2 w5 hm2 hc2 hR2 hO2; have B5 := Lib.hid (only_lt B4.out hO2); have R5 := Lib.hid hR2; clear hR2 hO2; unfold maxLen at hm2)
              | (go_at_call 24; ((with_reducible refine (of_new h3 B5.out ao2 0 cp2 [] R5.out rfl (by simp) (room_ok _ (Nat.zero_le 40) (by have := M1'.out; rw [List.nil_append]; omega))).mono ?_); rintro e w6 ⟨u, M2, rfl, h6, hM6, hT6⟩; have T6 := Lib.hid hT6; have M6 := Lib.hid (show M2.length = 0 by simpa using hM6); clear hT6 hM6)))
          have b6 : Below w6.heap.size w6 (w6.alloc (.cells #[] 24)) := (Below.refl _ _).alloc (Nat.le_refl _) _
          have B6 := Lib.hid b6
          have R6 := Lib.hid (PRow.lit w6)
          have HS6 : Hid (∀ W : World, w6.heap.size ≤ W.heap.size → ∀ j, j < w6.heap.size → j < W.heap.size) := Lib.hid (fun W hW j hj => by omega)
          clear b6
          go_wp2_with (first
            | (at_builtin; refine wpList_app rfl (.tmp 70) (.tmp 71) rfl (fun j => j < w6.heap.size) _ [] [] rfl R6.out (HS6.out _ B6.out.size) (.slice none 0 0) rfl src_none (by simp) 0 rfl [] rfl ?_; intro ao3 cp3 w7 hm3 hc3 hR3 hO3; have B7 := Lib.hid (only_lt B6.out hO3); have R7 := Lib.hid hR3; clear hR3 hO3; unfold maxLen at hm3)
            | (at_builtin; refine wpList_app rfl (.tmp 72) (.tmp 73) rfl (fun j => j < w6.heap.size) (.slice ao3 0 cp3) [] [] rfl R7.out (HS6.out _ B7.out.size) (.slice none 0 0) rfl src_none (by simp) 0 rfl [] rfl ?_; intro ao4 cp4 w8 hm4 hc4 hR4 hO4; have B8 := Lib.hid (only_lt B7.out hO4); have R8 := Lib.hid hR4; clear hR4 hO4; unfold maxLen at hm4)
            | (go_at_call 24; ((with_reducible refine (of_new h6 B8.out ao4 0 cp4 [] R8.out rfl (by simp) (room_ok _ (Nat.zero_le 40) (by have h1 := M1'.out; have h2 := M6.out; rw [List.nil_append, List.length_append]; omega))).mono ?_); rintro e w9 ⟨v, M3, rfl, h9, _, hT9⟩; have T9 := Lib.hid hT9; clear hT9)))
          have TA := Lib.hid ((T1.out.app M2).app M3)
          have TB := Lib.hid (T6.out.app M3)
          clear T1 T6 h6 h3 R3 R4 R5 R6 R7 R8 B3 B4 B5 B6 B7 B8
          generalize [] ++ M1 ++ M2 ++ M3 = LL at h9 T9 TA TB
          have H9 := Lib.hid h9
          clear h9
          go_loopw [16, 80] (fun out i wz => i = .int .i64 0 ∧ out = .slice none 0 0 ∧ Held wr wz p 60000 0 LL) (fun _ _ _ => 0)
          case atStart => exact ⟨rfl, rfl, H9.out⟩
          case round =>
            clear H9
            obtain ⟨rfl, rfl, h10⟩ := hrel
            have says : ∀ (t : Int) (T : Tree LL t (putL [] [])) (W : World) (F : Nat → Prop) (hA : Arena W p F 60000 0 LL), Calls Try.prog 20 #[.pointer (some ⟨p, 0, none⟩), .int .i64 t, .slice none 0 0] W fun e w' => e = .returned (.int .i64 0) ∧ Below W.heap.size W w' :=
              fun t T W F hA => says_any p F 60000 0 LL t [] T none 0 W ⟨Nat.le_refl _, Nat.zero_le _, fun n q hq => by simp at hq⟩ hA (by simp)
            have SA := Lib.hid says
            clear says
            go_wp2_with (first
              | (go_at_call 20; ((with_reducible refine (SA.out t TA.out _ _ h10.a).mono ?_); rintro e w11 ⟨rfl, hb11⟩; have h11 := h10.below hb11; clear hb11 h10))
              | (go_at_call 20; ((with_reducible refine (SA.out u TB.out _ _ h11.a).mono ?_); rintro e w12 ⟨rfl, hb12⟩; have h12 := h11.below hb12; clear hb12 h11))
              | (go_at_call 20; ((with_reducible refine (SA.out v T9.out _ _ h12.a).mono ?_); rintro e w13 ⟨rfl, hb13⟩; have h13 := h12.below hb13; clear hb13 h12))
              | (go_at_call 23; ((with_reducible refine (pawake_any w13).mono ?_); rintro e w14 ⟨rfl, hb14⟩; have h14 := h13.below hb14; clear hb14)))
            go_ret
            exact ⟨rfl, HBW.out.trans (h14.b.mono HBW.out.size)⟩
        by_cases hcn : cp = nk
        · subst hcn
          have S1 : Hid (Source (W3.alloc (.cells #[] 24)).drew (.slice (some ⟨g, 0, none⟩) n1 0) (ks.drop cp).length (cellsP (ks.drop cp))) :=
            Lib.hid (by rw [List.drop_eq_nil_of_le hcp1]; exact src_nil (by omega))
          have PT := Lib.hid (prs_takeI HP.out cp (by omega))
          go_region_held3 (fun W => True) (exact True.intro)
            (first
              | (refine step_app rfl (.tmp 56) (.tmp 59) rfl (fun j => j < W3.heap.size) _ [] (ks.drop cp) rfl R3.out (HS3.out _ B3.out.size) (.slice (some ⟨g, 0, none⟩) n1 0) rfl S1.out (by simp; omega) n1 (by rw [List.length_nil, Nat.zero_add]; exact HN1.out) (ks.drop cp) rfl ?_; intro ao1 cp1 w4 hm1 hc1 hR1 hO1; have B4 := Lib.hid (only_lt B3.out hO1); have R4 := Lib.hid hR1; clear hR1 hO1; unfold maxLen at hm1)
              | (refine step_app rfl (.tmp 60) (.tmp 63) rfl (fun j => j < W3.heap.size) (.slice ao1 n1 cp1) (ks.drop cp) (ks.take cp) rfl R4.out (HS3.out _ B4.out.size) (.slice (some ⟨g, 0, none⟩) cp cp) rfl (src_prs (PT.out.below (h3.b.trans (B4.out.mono h3.b.size))) (by rw [List.length_take]; omega)) (by have := HN2.out; omega) ks.length HN2.out tk HTK.out ?_; intro ao2 cp2 w5 hm2 hc2 hR2 hO2; have B5 := Lib.hid (only_lt B4.out hO2); have R5 := Lib.hid hR2; clear hR2 hO2; unfold maxLen at hm2)
              | (go_at_call 24; ((with_reducible refine (of_new h3 B5.out ao2 ks.length cp2 tk R5.out LTK.out.symm (by rw [LTK.out]; omega) (by rw [LTK.out]; exact room_ok _ hk40 (by have := M1'.out; rw [List.nil_append]; omega))).mono ?_); rintro e w6 ⟨u, M2, rfl, h6, hM6, hT6⟩; rw [LTK.out] at hM6; rw [PTK.out] at hT6; have T6 := Lib.hid hT6; have M6 := Lib.hid hM6; clear hT6 hM6)))
          have b6 : Below w6.heap.size w6 (w6.alloc (.cells #[] 24)) := (Below.refl _ _).alloc (Nat.le_refl _) _
          have B6 := Lib.hid b6
          have R6 := Lib.hid (PRow.lit w6)
          have HS6 : Hid (∀ W : World, w6.heap.size ≤ W.heap.size → ∀ j, j < w6.heap.size → j < W.heap.size) := Lib.hid (fun W hW j hj => by omega)
          obtain ⟨nn, hnn⟩ : ∃ nn, ks.length + ks.length = nn := ⟨_, rfl⟩
          have hnn80 : nn ≤ 80 := by omega
          obtain ⟨kk, hkk⟩ : ∃ kk, ks ++ ks = kk := ⟨_, rfl⟩
          have LKK := Lib.hid (show kk.length = nn by rw [← hkk, List.length_append]; exact hnn)
          have PKK := Lib.hid (show putL [] kk = putL [] ks by rw [← hkk]; exact putL_more HF.out)
          have HNN := Lib.hid hnn
          have HKK := Lib.hid hkk
          have PLEN := Lib.hid (fun n => putL_len (ks.take n) Srt.nil)
          clear b6 hnn hkk
          go_wp2_with (first
            | (at_builtin; refine wpList_app rfl (.tmp 70) (.tmp 71) rfl (fun j => j < w6.heap.size) _ [] ks rfl R6.out (HS6.out _ B6.out.size) (.slice (some ⟨g, 0, none⟩) ks.length cp) rfl (src_prs (HP.out.below (h6.b.trans (B6.out.mono h6.b.size))) rfl) (by simp; omega) ks.length (by simp) ks rfl ?_; intro ao3 cp3 w7 hm3 hc3 hR3 hO3; have B7 := Lib.hid (only_lt B6.out hO3); have R7 := Lib.hid hR3; clear hR3 hO3; unfold maxLen at hm3)
            | (at_builtin; refine wpList_app rfl (.tmp 72) (.tmp 73) rfl (fun j => j < w6.heap.size) (.slice ao3 ks.length cp3) ks ks rfl R7.out (HS6.out _ B7.out.size) (.slice (some ⟨g, 0, none⟩) ks.length cp) rfl (src_prs (HP.out.below (h6.b.trans (B7.out.mono h6.b.size))) rfl) (by omega) nn HNN.out kk HKK.out ?_; intro ao4 cp4 w8 hm4 hc4 hR4 hO4; have B8 := Lib.hid (only_lt B7.out hO4); have R8 := Lib.hid hR4; clear hR4 hO4; unfold maxLen at hm4)
            | (go_at_call 24; ((with_reducible refine (of_new h6 B8.out ao4 nn cp4 kk R8.out LKK.out.symm (by rw [LKK.out]; omega) (by rw [LKK.out]; exact room_ok _ hnn80 (by have h1 := M1'.out; have h2 := M6.out; have h3 := Nat.mul_le_mul hk40 (show ks.length + 1 ≤ 41 by omega); rw [List.nil_append, List.length_append]; omega))).mono ?_); rintro e w9 ⟨v, M3, rfl, h9, _, hT9⟩; rw [PKK.out] at hT9; have T9 := Lib.hid hT9; clear hT9)))
          have TA := Lib.hid ((T1.out.app M2).app M3)
          have TB := Lib.hid (T6.out.app M3)
          clear T1 T6 h6 h3 R3 R4 R5 R6 R7 R8 B3 B4 B5 B6 B7 B8
          generalize [] ++ M1 ++ M2 ++ M3 = LL at h9 T9 TA TB
          have H9 := Lib.hid h9
          clear h9
          go_loopw [16, 80] (fun out i wz => ∃ (n : Nat) (ao5 : Option Addr) (cp5 m : Nat), n ≤ ks.length ∧ i = .int .i64 n ∧ out = .slice ao5 m cp5 ∧ m = (putL [] (ks.take n)).length ∧ Prs wz ao5 cp5 (putL [] (ks.take n)) ∧ Held wr wz p 60000 0 LL) (fun _ i _ => ks.length - (intOf i).toNat)
          case atStart => exact ⟨0, none, 0, 0, Nat.zero_le _, rfl, rfl, rfl, ⟨Nat.le_refl _, Nat.zero_le _, fun n q hq => by simp [putL] at hq⟩, H9.out⟩
          case round =>
            clear H9
            obtain ⟨n, ao5, cp5, m, hn5, rfl, rfl, hm5, hP5, h10⟩ := hrel
            have PL := PLEN.out n
            rw [List.length_nil, List.length_take] at PL
            by_cases hlt5 : n < ks.length
            · obtain ⟨q, hq⟩ : ∃ q, ks[n]? = some q := ⟨_, List.getElem?_eq_getElem hlt5⟩
              obtain ⟨b, o, e, c0, c1⟩ := (HP.out.below h10.b).2.2 n q hq
              cases e
              obtain ⟨x0, x1⟩ := q
              dsimp only at c0 c1
              rw [Nat.zero_add] at c0 c1
              have etake : ks.take (n + 1) = ks.take n ++ [(x0, x1)] := by rw [List.take_succ, hq]; rfl
              have HQ := Lib.hid etake
              have hal := (Below.refl wr.heap.size wr).alloc (Nat.le_refl _) (.cells #[.int .i64 x0, .int .i64 x1] 24)
              have cw := with_is ao5 cp5 (putL [] (ks.take n)) x0 x1 _ (hP5.below hal) (by omega)
              rw [← hm5] at cw
              have H10 := Lib.hid (h10.below hal)
              clear hq etake hal hP5 h10 PL hm5
              go_wp2_with (fail)
              refine cw.mono ?_
              clear cw
              rintro e w11 ⟨⟨ao6, cp6, rfl, hP6, hb6⟩, _⟩
              have H11 := Lib.hid (H10.out.below hb6)
              have P6 := Lib.hid hP6
              clear hP6 hb6
              go_wp2_with (fail)
              go_roundw
              case rel => exact ⟨n + 1, ao6, cp6, _, by omega, by go_num, rfl, by rw [HQ.out, putL_snoc], by rw [HQ.out, putL_snoc]; exact P6.out, H11.out⟩
              case measure => simp [intOf]; omega
            · obtain rfl : n = ks.length := by omega
              rw [List.take_of_length_le (Nat.le_refl _)] at hm5 hP5
              have PL2 : m ≤ 1000 := by rw [hm5, ← List.take_of_length_le (Nat.le_refl ks.length)]; omega
              have HM := Lib.hid hm5
              have P5 := Lib.hid hP5
              have says := fun t (T : Tree LL t (putL [] ks)) W F (hP : Prs W ao5 cp5 (putL [] ks)) (hA : Arena W p F 60000 0 LL) => says_any p _ 60000 0 LL t (putL [] ks) T ao5 cp5 W hP hA (by omega)
              rw [← hm5] at says
              have SA := Lib.hid says
              clear hm5 hP5 PL PL2 says
              go_wp2_with (first
                | (go_at_call 20; ((with_reducible refine (SA.out t TA.out _ _ P5.out h10.a).mono ?_); rintro e w11 ⟨rfl, hb11⟩; have h11 := h10.below hb11; have Q11 := Lib.hid (P5.out.below hb11); clear hb11 h10))
                | (go_at_call 20; ((with_reducible refine (SA.out u TB.out _ _ Q11.out h11.a).mono ?_); rintro e w12 ⟨rfl, hb12⟩; have h12 := h11.below hb12; have Q12 := Lib.hid (Q11.out.below hb12); clear hb12 h11))
                | (go_at_call 20; ((with_reducible refine (SA.out v T9.out _ _ Q12.out h12.a).mono ?_); rintro e w13 ⟨rfl, hb13⟩; have h13 := h12.below hb13; clear hb13 h12))
                | (go_at_call 23; ((with_reducible refine (pawake_any w13).mono ?_); rintro e w14 ⟨rfl, hb14⟩; have h14 := h13.below hb14; clear hb14)))
              go_ret
              exact ⟨rfl, HBW.out.trans (h14.b.mono HBW.out.size)⟩
        · have hnc : ¬ nk = cp := fun e => hcn e.symm
          have hc0 : ¬ cp = 0 := by omega
          have S1 : Hid (Source (W3.alloc (.cells #[] 24)).drew (.slice (some ⟨g, nk * 2, none⟩) n1 (cp - nk)) (ks.drop nk).length (cellsP (ks.drop nk))) :=
            Lib.hid (by have h := prs_dropI (HP.out.below (h3.b.trans (B3.out.mono h3.b.size))) nk (by omega); rw [Nat.zero_add] at h; exact src_prs h HN1.out.symm)
          have PT := Lib.hid (prs_takeI HP.out nk (by omega))
          go_region_held3 (fun W => True) (exact True.intro)
            (first
              | (refine step_app rfl (.tmp 56) (.tmp 59) rfl (fun j => j < W3.heap.size) _ [] (ks.drop nk) rfl R3.out (HS3.out _ B3.out.size) (.slice (some ⟨g, nk * 2, none⟩) n1 (cp - nk)) rfl S1.out (by simp; omega) n1 (by rw [List.length_nil, Nat.zero_add]; exact HN1.out) (ks.drop nk) rfl ?_; intro ao1 cp1 w4 hm1 hc1 hR1 hO1; have B4 := Lib.hid (only_lt B3.out hO1); have R4 := Lib.hid hR1; clear hR1 hO1; unfold maxLen at hm1)
              | (refine step_app rfl (.tmp 60) (.tmp 63) rfl (fun j => j < W3.heap.size) (.slice ao1 n1 cp1) (ks.drop nk) (ks.take nk) rfl R4.out (HS3.out _ B4.out.size) (.slice (some ⟨g, 0, none⟩) nk cp) rfl (src_prs (PT.out.below (h3.b.trans (B4.out.mono h3.b.size))) (by rw [List.length_take]; omega)) (by have := HN2.out; omega) ks.length HN2.out tk HTK.out ?_; intro ao2 cp2 w5 hm2 hc2 hR2 hO2; have B5 := Lib.hid (only_lt B4.out hO2); have R5 := Lib.hid hR2; clear hR2 hO2; unfold maxLen at hm2)
              | (go_at_call 24; ((with_reducible refine (of_new h3 B5.out ao2 ks.length cp2 tk R5.out LTK.out.symm (by rw [LTK.out]; omega) (by rw [LTK.out]; exact room_ok _ hk40 (by have := M1'.out; rw [List.nil_append]; omega))).mono ?_); rintro e w6 ⟨u, M2, rfl, h6, hM6, hT6⟩; rw [LTK.out] at hM6; rw [PTK.out] at hT6; have T6 := Lib.hid hT6; have M6 := Lib.hid hM6; clear hT6 hM6)))
          have b6 : Below w6.heap.size w6 (w6.alloc (.cells #[] 24)) := (Below.refl _ _).alloc (Nat.le_refl _) _
          have B6 := Lib.hid b6
          have R6 := Lib.hid (PRow.lit w6)
          have HS6 : Hid (∀ W : World, w6.heap.size ≤ W.heap.size → ∀ j, j < w6.heap.size → j < W.heap.size) := Lib.hid (fun W hW j hj => by omega)
          obtain ⟨nn, hnn⟩ : ∃ nn, ks.length + ks.length = nn := ⟨_, rfl⟩
          have hnn80 : nn ≤ 80 := by omega
          obtain ⟨kk, hkk⟩ : ∃ kk, ks ++ ks = kk := ⟨_, rfl⟩
          have LKK := Lib.hid (show kk.length = nn by rw [← hkk, List.length_append]; exact hnn)
          have PKK := Lib.hid (show putL [] kk = putL [] ks by rw [← hkk]; exact putL_more HF.out)
          have HNN := Lib.hid hnn
          have HKK := Lib.hid hkk
          have PLEN := Lib.hid (fun n => putL_len (ks.take n) Srt.nil)
          clear b6 hnn hkk
          go_wp2_with (first
            | (at_builtin; refine wpList_app rfl (.tmp 70) (.tmp 71) rfl (fun j => j < w6.heap.size) _ [] ks rfl R6.out (HS6.out _ B6.out.size) (.slice (some ⟨g, 0, none⟩) ks.length cp) rfl (src_prs (HP.out.below (h6.b.trans (B6.out.mono h6.b.size))) rfl) (by simp; omega) ks.length (by simp) ks rfl ?_; intro ao3 cp3 w7 hm3 hc3 hR3 hO3; have B7 := Lib.hid (only_lt B6.out hO3); have R7 := Lib.hid hR3; clear hR3 hO3; unfold maxLen at hm3)
            | (at_builtin; refine wpList_app rfl (.tmp 72) (.tmp 73) rfl (fun j => j < w6.heap.size) (.slice ao3 ks.length cp3) ks ks rfl R7.out (HS6.out _ B7.out.size) (.slice (some ⟨g, 0, none⟩) ks.length cp) rfl (src_prs (HP.out.below (h6.b.trans (B7.out.mono h6.b.size))) rfl) (by omega) nn HNN.out kk HKK.out ?_; intro ao4 cp4 w8 hm4 hc4 hR4 hO4; have B8 := Lib.hid (only_lt B7.out hO4); have R8 := Lib.hid hR4; clear hR4 hO4; unfold maxLen at hm4)
            | (go_at_call 24; ((with_reducible refine (of_new h6 B8.out ao4 nn cp4 kk R8.out LKK.out.symm (by rw [LKK.out]; omega) (by rw [LKK.out]; exact room_ok _ hnn80 (by have h1 := M1'.out; have h2 := M6.out; have h3 := Nat.mul_le_mul hk40 (show ks.length + 1 ≤ 41 by omega); rw [List.nil_append, List.length_append]; omega))).mono ?_); rintro e w9 ⟨v, M3, rfl, h9, _, hT9⟩; rw [PKK.out] at hT9; have T9 := Lib.hid hT9; clear hT9)))
          have TA := Lib.hid ((T1.out.app M2).app M3)
          have TB := Lib.hid (T6.out.app M3)
          clear T1 T6 h6 h3 R3 R4 R5 R6 R7 R8 B3 B4 B5 B6 B7 B8
          generalize [] ++ M1 ++ M2 ++ M3 = LL at h9 T9 TA TB
          have H9 := Lib.hid h9
          clear h9
          go_loopw [16, 80] (fun out i wz => ∃ (n : Nat) (ao5 : Option Addr) (cp5 m : Nat), n ≤ ks.length ∧ i = .int .i64 n ∧ out = .slice ao5 m cp5 ∧ m = (putL [] (ks.take n)).length ∧ Prs wz ao5 cp5 (putL [] (ks.take n)) ∧ Held wr wz p 60000 0 LL) (fun _ i _ => ks.length - (intOf i).toNat)
          case atStart => exact ⟨0, none, 0, 0, Nat.zero_le _, rfl, rfl, rfl, ⟨Nat.le_refl _, Nat.zero_le _, fun n q hq => by simp [putL] at hq⟩, H9.out⟩
          case round =>
            clear H9
            obtain ⟨n, ao5, cp5, m, hn5, rfl, rfl, hm5, hP5, h10⟩ := hrel
            have PL := PLEN.out n
            rw [List.length_nil, List.length_take] at PL
            by_cases hlt5 : n < ks.length
            · obtain ⟨q, hq⟩ : ∃ q, ks[n]? = some q := ⟨_, List.getElem?_eq_getElem hlt5⟩
              obtain ⟨b, o, e, c0, c1⟩ := (HP.out.below h10.b).2.2 n q hq
              cases e
              obtain ⟨x0, x1⟩ := q
              dsimp only at c0 c1
              rw [Nat.zero_add] at c0 c1
              have etake : ks.take (n + 1) = ks.take n ++ [(x0, x1)] := by rw [List.take_succ, hq]; rfl
              have HQ := Lib.hid etake
              have hal := (Below.refl wr.heap.size wr).alloc (Nat.le_refl _) (.cells #[.int .i64 x0, .int .i64 x1] 24)
              have cw := with_is ao5 cp5 (putL [] (ks.take n)) x0 x1 _ (hP5.below hal) (by omega)
              rw [← hm5] at cw
              have H10 := Lib.hid (h10.below hal)
              clear hq etake hal hP5 h10 PL hm5
              go_wp2_with (fail)
              refine cw.mono ?_
              clear cw
              rintro e w11 ⟨⟨ao6, cp6, rfl, hP6, hb6⟩, _⟩
              have H11 := Lib.hid (H10.out.below hb6)
              have P6 := Lib.hid hP6
              clear hP6 hb6
              go_wp2_with (fail)
              go_roundw
              case rel => exact ⟨n + 1, ao6, cp6, _, by omega, by go_num, rfl, by rw [HQ.out, putL_snoc], by rw [HQ.out, putL_snoc]; exact P6.out, H11.out⟩
              case measure => simp [intOf]; omega
            · obtain rfl : n = ks.length := by omega
              rw [List.take_of_length_le (Nat.le_refl _)] at hm5 hP5
              have PL2 : m ≤ 1000 := by rw [hm5, ← List.take_of_length_le (Nat.le_refl ks.length)]; omega
              have HM := Lib.hid hm5
              have P5 := Lib.hid hP5
              have says := fun t (T : Tree LL t (putL [] ks)) W F (hP : Prs W ao5 cp5 (putL [] ks)) (hA : Arena W p F 60000 0 LL) => says_any p _ 60000 0 LL t (putL [] ks) T ao5 cp5 W hP hA (by omega)
              rw [← hm5] at says
              have SA := Lib.hid says
              clear hm5 hP5 PL PL2 says
              go_wp2_with (first
                | (go_at_call 20; ((with_reducible refine (SA.out t TA.out _ _ P5.out h10.a).mono ?_); rintro e w11 ⟨rfl, hb11⟩; have h11 := h10.below hb11; have Q11 := Lib.hid (P5.out.below hb11); clear hb11 h10))
                | (go_at_call 20; ((with_reducible refine (SA.out u TB.out _ _ Q11.out h11.a).mono ?_); rintro e w12 ⟨rfl, hb12⟩; have h12 := h11.below hb12; have Q12 := Lib.hid (Q11.out.below hb12); clear hb12 h11))
                | (go_at_call 20; ((with_reducible refine (SA.out v T9.out _ _ Q12.out h12.a).mono ?_); rintro e w13 ⟨rfl, hb13⟩; have h13 := h12.below hb13; clear hb13 h12))
                | (go_at_call 23; ((with_reducible refine (pawake_any w13).mono ?_); rintro e w14 ⟨rfl, hb14⟩; have h14 := h13.below hb14; clear hb14)))
              go_ret
              exact ⟨rfl, HBW.out.trans (h14.b.mono HBW.out.size)⟩

set_option maxRecDepth 100000 in
theorem lifted (os : Os) (started : os.Started) (H : Type) (enc : TypeId × Value → H) :
    ReturnsInHanded {} Try.checked os 4 .any (Rows.putOrderSpec.pre6 enc Try.prog Try.f4 Rows.putOrderRow.domain false) (Rows.putOrderSpec.post enc Try.prog Try.f4 false true false false) := by
  refine returnsInHanded_of_change (C := Try.checked) own started (by kernel_rfl) Try.func4
    (ChangeSpec.witness6 (enc := enc) (C := Try.checked) false ⟨#[], #[.slice none 0 0, .int .i64 0], []⟩ 8 (by kernel_rfl) (by kernel_rfl) (by kernel_rfl) (by kernel_rfl)) ?_
  intro W base args ds gs before hval0 hW hcnd _
  have hval : ∀ (j : Nat) t v, Try.f4.params[j]? = some t → args[j]? = some v → Value.okWide Try.prog W .any base t v := hval0
  have hW' := hW
  obtain ⟨p, q, hA0, hV, rfl, hfz, hnd⟩ := hW
  have hA : DataW.TrodAll enc Try.prog W 0 (fun _ => true) true Try.f4.params.toList args.toList ds p := hA0
  rw [Try.params4] at hA hval
  obtain ⟨v0, vs0, d0, ds0, p0, q0, hargs, rfl, rfl, h0, r0⟩ := trodAll_cons hA
  obtain ⟨v1, vs1, d1, ds1, p1, q1, rfl, rfl, rfl, h1, r1⟩ := trodAll_cons r0
  obtain ⟨rfl, rfl, rfl⟩ := trodAll_nil r1
  obtain rfl : args = #[v0, v1] := by cases args; simp_all
  obtain ⟨rfl, rfl⟩ := trodVars_none hV
  have k0 := h0
  have lt0 : ∀ x ∈ p0, x.block < W.heap.size := by obtain ⟨m, hm⟩ := k0; exact DataW.trod_lt m _ _ _ hm
  obtain ⟨b0, l0, c0, rfl⟩ := okWide_slice Try.underlying22 (hval 0 22 v0 rfl rfl)
  obtain ⟨a0, cap0, z0, e0, w0, g0⟩ := open_pairsw (enc := enc) (w := W) (v := .slice b0 l0 c0) (fuel := h0.choose) (by simpa [Value.cells] using h0.choose_spec)
  rw [e0] at hval k0 h0 hW' hval0 hA0
  have k1 := h1
  have lt1 : ∀ x ∈ p1, x.block < W.heap.size := by obtain ⟨m, hm⟩ := k1; exact DataW.trod_lt m _ _ _ hm
  obtain ⟨a1, rfl, rfl, rfl, w1⟩ := open_int Try.underlying3 (hval 1 3 v1 rfl rfl) h1
  clear hA0 hval0
  rw [e0]; refine (walk a0 cap0 z0 a1 W w0 g0 w1).mono fun e W' ⟨he, bel⟩ => ?_
  subst he
  exact ⟨_, rfl, _, _, _, [], _, [], hW', trodAll_mk1 (shut_bool Try.underlying4 _), (trodAll_cons_mk (Below.trod laidOut (by kernel_rfl) (of_decide_eq_true (by kernel_rfl)) k0 bel lt0) (trodAll_cons_mk (Below.trod laidOut (by kernel_rfl) (of_decide_eq_true (by kernel_rfl)) k1 bel lt1) trodAll_mk0)), rfl, bel.frame _, fun h => by cases h⟩

theorem over : Rows.putOrderRow.holds Try.pinned (OpenSpec.ofChange Rows.putOrderSpec) :=
  OpenClaim.holds_of_wide 4 Try.f4 rfl rfl rfl rfl rfl rfl rfl ⟨rfl, rfl, rfl, rfl, rfl⟩ rfl rfl rfl rfl rfl (by kernel_rfl) Try.func4 (by kernel_rfl)
    (of_decide_eq_true (by kernel_rfl)) (by unfold Func.isWrapper; first | (rw [if_pos (by decide +kernel)]; kernel_rfl) | (rw [if_neg (by decide +kernel)]; exact ⟨rfl, rfl⟩))
    (fun os started H enc _ => lifted os started H enc)

theorem putOrderHolds : Rows.PutOrderSaid := over
#print axioms putOrderHolds
end Go.Proofs.Ytdonidohmenccaa.putOrder
