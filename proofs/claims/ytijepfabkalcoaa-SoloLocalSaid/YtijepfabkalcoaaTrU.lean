/- tree.Leaves; tree.All, osierref1.All out of leaves. No condition: lemmas. Path.Top, Path.Right, tree.One. No condition: lemmas. -/
import Derived.Test.YtijepfabkalcoaaTrS
import Derived.Test.YtijepfabkalcoaaTrO
namespace Go.Proofs.Ytijepfabkalcoaa
open Go.RowKit
set_option linter.all false

/-- The places of the leaves, or none. -/
def lvO (N : List Nd) (t : Int) (ls : List Nat) : Prop := (∃ s, Tr N s t ∧ ls = s.lvs) ∨ ((∀ s, ¬ Tr N s t) ∧ ls = [])
theorem lvO_ex (N : List Nd) (t : Int) : ∃ ls, lvO N t ls := by
  rcases Classical.em (∃ s, Tr N s t) with ⟨s, h⟩ | h
  · exact ⟨s.lvs, .inl ⟨s, h, rfl⟩⟩
  · exact ⟨[], .inr ⟨fun s hs => h ⟨s, hs⟩, rfl⟩⟩
/-- The same, in memory of its own. -/
def LvW (w : World) (ls : List Nat) (e : Ending) (w' : World) : Prop := ∃ ao c, e = .returned (.slice ao ls.length c) ∧ RI w' ao c (preI ls) ∧ (∀ b o sp, ao = some ⟨b, o, sp⟩ → w.heap.size ≤ b) ∧ Below w.heap.size w w'
def LvIs (w : World) (ls : List Nat) (e : Ending) (w' : World) : Prop := ∃ ao c, e = .returned (.slice ao ls.length c) ∧ RI w' ao c (preI ls) ∧ Below w.heap.size w w'

set_option maxRecDepth 100000 in
set_option maxHeartbeats 6400000 in
theorem tleaves_no (t : Int) (a : Option Addr) (cap : Nat) (N : List Nd) (w : World) (hN : Ns w a cap N) (hsm : Small N) (h : ∀ s, ¬ Tr N s t) :
    Calls Try.prog 18 #[trv t a cap N] w (LvIs w []) := by
  have b1 : Below w.heap.size w (w.alloc (.cells #[.int .i64 t, .slice a N.length cap] 24)) := al1 _
  have cm := tmay_any t a cap N _ (hN.keep b1) hsm false ⟨fun h => (by cases h), fun ⟨s, hs⟩ => absurd hs (h s)⟩
  have HB := Lib.hid b1
  unfold trv at cm ⊢
  clear b1 hN h
  go_enter Try.func18, Try.ntmps18
  go_wp2_with (go_at_call 11; ((with_reducible refine cm.mono ?_); clear cm; rintro e w3 ⟨rfl, hb3⟩))
  go_ret
  exact ⟨none, 0, rfl, RI.none _ _ _ (Nat.zero_le _), bel2 HB.out hb3⟩
theorem kp_lvs {N : List Nd} {s : Sh} {t : Int} (h : Tr N s t) : (preI s.pre).filter (kp N) = preI s.lvs := by
  rw [lvs_filter h.hg]
  unfold preI
  rw [List.filter_map]
  congr 1
set_option maxRecDepth 100000 in
set_option maxHeartbeats 6400000 in
theorem tleaves_own (t : Int) (a : Option Addr) (cap : Nat) (N : List Nd) (w : World) (hN : Ns w a cap N) (hsm : Small N) (s : Sh) (h : Tr N s t) :
    Calls Try.prog 18 #[trv t a cap N] w (LvW w s.lvs) := by
  have hl1 := hsm.1
  have b1 : Below w.heap.size w (w.alloc (.cells #[.int .i64 t, .slice a N.length cap] 24)) := al1 _
  have cm := tmay_any t a cap N _ (hN.keep b1) hsm true ⟨fun _ => ⟨s, h⟩, fun _ => rfl⟩
  have B1 := Lib.hid (Bk.new w #[.int .i64 t, .slice a N.length cap] 24)
  have HB := Lib.hid b1
  have hpl : (([] : List Int) ++ preI s.pre).length = N.length := by simp [preI, h.all]
  have hpl2 : (preI s.pre).length = N.length := by simp [preI, h.all]
  have cw := fun (W : World) (hb : Below w.heap.size w W) => (walk_any hN hsm s t none none h.hg W none 0 [] (by have := h.all; simp; omega) hb (Nums.nil _ _)).mono (R' := fun e w' => ∃ ao cap2, e = .returned (.slice ao N.length cap2) ∧ Ws W (.slice none 0 0) w' (.slice ao N.length cap2) (preI s.pre)) (fun e w' hh => by
    obtain ⟨ao, cap2, rfl, hw⟩ := hh
    rw [hpl] at hw ⊢
    exact ⟨ao, cap2, rfl, hw⟩)
  have hp0 : 0 < N.length := by have := s.pre_pos; have := h.all; omega
  have cd := fun (g c : Nat) (W : World) (hR : Bk W g (cellsI (preI s.pre))) (hcl : N.length ≤ c) (hcm : c ≤ maxLen) (hg : w.heap.size < g) (hb : Below w.heap.size w W) (hq : W.cell? ⟨w.heap.size, 1, none⟩ = some (.slice a N.length cap)) =>
    del_any hN hl1 g c (preI s.pre) (fun x hx => by
      unfold preI at hx
      obtain ⟨i, hi, rfl⟩ := List.mem_map.1 hx
      have := h.hg.lt i hi
      omega) (by omega) (by omega) w.heap.size W hR (by omega) hcm (by omega) (by omega) hb hq
  simp only [hpl2, kp_lvs h] at cd
  have HN := Lib.hid hN
  unfold trv at cm ⊢
  simp only [List.length_nil] at cw
  have HP := Lib.hid hpl2
  clear b1 hN h hsm hpl hpl2
  go_enter Try.func18, Try.ntmps18
  go_wp2_with (first
    | (go_at_call 11; ((with_reducible refine cm.mono ?_); clear cm; rintro e w3 ⟨rfl, hb3⟩; have R1 := Lib.hid (B1.out.keep hb3); have HB3 := Lib.hid (bel2 HB.out hb3); clear hb3; have k0 := R1.out.at_ 0 _ rfl; have k1 := R1.out.at_ 1 _ rfl))
    | (go_at_call 46; ((with_reducible refine (cw _ HB3.out).mono ?_); clear cw; rintro e w4 ⟨ao, cap2, rfl, hw⟩; have HW := Lib.hid hw; clear hw; have HB4 := Lib.hid (HW.out.below HB3.out (Nat.le_refl _) (fun k hk => by simp [Value.ownBlock] at hk)); have R2 := Lib.hid (show Bk w4 w.heap.size _ from R1.out.only HW.out.o (by intro hh; exact hh ⟨R1.out.lt, by simp [Value.ownBlock]⟩)); obtain ⟨g, rfl, hgn, hgc, hgm, hgb⟩ := HW.out.n.bk (by rw [HP.out]; exact hp0); clear hgn; have HG := Lib.hid hgb; clear hgb k0 k1; have HGL := Lib.hid (show w.heap.size < g from by
        have h1 := HW.out.n.av g rfl
        have h2 := R1.out.lt
        unfold Tk at h1
        rcases Nat.lt_or_ge g w3.heap.size with h3 | h3
        · exact absurd ⟨h3, by simp [Value.ownBlock]⟩ h1
        · omega)))
    | (go_at_call 45; ((with_reducible refine (cd _ _ _ HG.out hgc hgm HGL.out HB4.out (R2.out.at_ 1 _ rfl)).mono ?_); clear cd; rintro e w5 ⟨k, rfl, hk, hri, ho⟩; have HK := Lib.hid (And.intro hk (And.intro hri ho)); clear hk hri ho))
    | fail)
  obtain rfl : k = s.lvs.length := by rw [HK.out.1]; simp [preI]
  go_ret
  obtain ⟨-, hri, ho⟩ := HK.out
  exact ⟨some ⟨g, 0, none⟩, cap2, rfl, hri, (fun b o sp e => by cases e; have := HGL.out; omega), HB4.out.trans (ho.below (B := w.heap.size) (fun i hi => by have := HGL.out; omega) HB4.out.size)⟩
theorem tleaves_yes (t : Int) (a : Option Addr) (cap : Nat) (N : List Nd) (w : World) (hN : Ns w a cap N) (hsm : Small N) (s : Sh) (h : Tr N s t) :
    Calls Try.prog 18 #[trv t a cap N] w (LvIs w s.lvs) :=
  (tleaves_own t a cap N w hN hsm s h).mono (fun e w' hh => by
    obtain ⟨ao, c, h1, h2, _, h3⟩ := hh
    exact ⟨ao, c, h1, h2, h3⟩)
theorem tleaves_any (t : Int) (a : Option Addr) (cap : Nat) (N : List Nd) (w : World) (hN : Ns w a cap N) (hsm : Small N) (ls : List Nat) (h : lvO N t ls) :
    Calls Try.prog 18 #[trv t a cap N] w (LvIs w ls) := by
  rcases h with ⟨s, h, rfl⟩ | ⟨h, rfl⟩
  · exact tleaves_yes t a cap N w hN hsm s h
  · exact tleaves_no t a cap N w hN hsm h
theorem allP_len {N : List Nd} (hsm : Small N) (l : List Nat) : (allP N l).length ≤ l.length * 1100000 := by
  induction l with
  | nil => simp [allP]
  | cons i l ih =>
    have e : allP N (i :: l) = (nd N i).p ++ allP N l := by simp [allP]
    have hi : (nd N i).p.length ≤ 1100000 := by
      by_cases h : i < N.length
      · exact hsm.at (nd_get h)
      · have : nd N i = Nd.z := by simp [nd, List.getD, List.getElem?_eq_none (by omega : N.length ≤ i)]
        rw [this]; simp [Nd.z]
    rw [e, List.length_append, List.length_cons]
    omega

set_option maxRecDepth 100000 in
set_option maxHeartbeats 6400000 in
theorem tall_gen (t : Int) (a : Option Addr) (cap : Nat) (N : List Nd) (w : World) (hN : Ns w a cap N) (hsm : Small N) (ls : List Nat) (hls : ls.length ≤ N.length ∧ ∀ i ∈ ls, i < N.length)
    (cv : ∀ W, Ns W a cap N → Calls Try.prog 18 #[trv t a cap N] W (LvIs W ls)) :
    Calls Try.prog 74 #[trv t a cap N] w (RowIs w (allP N ls)) := by
  have hl1 := hsm.1
  have hc1 := hN.1
  have hc2 := hN.2.1
  unfold maxLen at hc2
  have b1 : Below w.heap.size w (w.alloc (.cells #[.int .i64 t, .slice a N.length cap] 24)) := al1 _
  have cl := cv _ (hN.keep b1)
  have B1 := Lib.hid (Bk.new w #[.int .i64 t, .slice a N.length cap] 24)
  have HB := Lib.hid b1
  have HN := Lib.hid hN
  have HS := Lib.hid hsm
  have HL := Lib.hid hls
  have hll := hls.1
  unfold trv at cl ⊢
  clear b1 hN hsm hls cv
  go_enter Try.func74, Try.ntmps74
  go_wp2_with (go_at_call 18; ((with_reducible refine cl.mono ?_); clear cl; rintro e w3 ⟨ao, c, rfl, hri, hb3⟩; have R1 := Lib.hid (B1.out.keep hb3); have HB3 := Lib.hid (bel2 HB.out hb3); have HRI := Lib.hid hri; clear hb3 hri))
  go_loopw [3, 9] (fun x i wr => ∃ (n m : Nat) (ap : Option Addr) (cp : Nat), n ≤ ls.length ∧ i = .int .i64 n ∧ x = .slice ap m cp ∧ m = (allP N (ls.take n)).length ∧ PRow wr (fun j => j < w3.heap.size) (.slice ap m cp) (allP N (ls.take n)) ∧ Below w3.heap.size w3 wr) (fun _ i _ => ls.length - (intOf i).toNat)
  case atStart => exact ⟨0, 0, none, 0, Nat.zero_le _, rfl, rfl, rfl, PRow.nil _ _, Below.refl _ _⟩
  case round =>
    obtain ⟨n, m, ap, cp, hn, rfl, rfl, hm, hR, hb⟩ := hrel
    have HR := Lib.hid (And.intro hR hb)
    have HM := Lib.hid hm
    clear hR hm
    by_cases hlt : n < ls.length
    · obtain ⟨i, hi⟩ : ∃ i, ls[n]? = some i := ⟨_, List.getElem?_eq_getElem hlt⟩
      have hil := HL.out.2 i (List.mem_of_getElem? hi)
      obtain ⟨b0, o0, rfl, c0⟩ := HRI.out.2.2 n (i : Int) (by unfold preI; rw [List.getElem?_map, hi]; rfl)
      have c1 := kc hb c0
      have t1 := (R1.out.keep hb).at_ 1 _ rfl
      obtain ⟨b, o, pa, pc, rfl, hna⟩ := (HN.out.keep (bel2 HB3.out hb)).2.2 i _ (nd_get hil)
      have e4 := hna.c4
      have HSR := Lib.hid (src_any hna.ps)
      have HT := Lib.hid (allP_take (N := N) hi)
      have HLL := Lib.hid (show (allP N (ls.take n)).length + (nd N i).p.length ≤ 100000000000 by
        have h1 := allP_len HS.out (ls.take n)
        have h2 : (ls.take n).length ≤ n := by rw [List.length_take]; omega
        have h3 := HS.out.at (nd_get hil)
        omega)
      have hi0 : (0 : Int) ≤ (i : Int) := by omega
      have hi1 : (i : Int) < (N.length : Int) := by omega
      generalize (nd N i).p = p at *
      clear hna c0 hi hb
      go_wp2_with (at_builtin; refine wpList_app rfl (.tmp 13) (.tmp 19) rfl (fun j => j < w3.heap.size) _ (allP N (ls.take n)) p rfl HR.out.1 (fun k hk => Nat.lt_of_lt_of_le hk HR.out.2.size) _ rfl HSR.out HLL.out _ rfl _ rfl ?_; intro ao4 cp4 w4 hm4 hc4 hR4 hO4; have HF := Lib.hid (And.intro hR4 (only_lt HR.out.2 hO4)); clear hR4 hO4; unfold maxLen at hm4)
      go_roundw
      case rel => exact ⟨n + 1, _, ao4, cp4, by omega, by go_num, rfl, by rw [HT.out, List.length_append], by rw [HT.out]; exact HF.out.1, HF.out.2⟩
      case measure => simp [intOf]; omega
    · obtain rfl : n = ls.length := by omega
      rw [List.take_of_length_le (Nat.le_refl _)] at HR HM
      have hm := HM.out
      go_wp2_with (fail)
      go_ret
      subst hm
      exact ⟨_, _, rfl, HR.out.1.sub (fun k hk hs => Nat.lt_of_lt_of_le hs HB3.out.size), HB3.out.trans (HR.out.2.mono HB3.out.size)⟩

end Go.Proofs.Ytijepfabkalcoaa

namespace Go.Proofs.Ytijepfabkalcoaa
open Go.RowKit
set_option linter.all false

/-- The tree of one leaf. -/
def oneN (l : List Pr) : List Nd := [⟨false, 0, 0, 0, l, 0⟩]
/-- What One tells: a tree in memory of its own. -/
def TnIs (w : World) (t : Int) (P : List Nd) (e : Ending) (w' : World) : Prop := ∃ ao cp, e = .returned (.agg #[.int .i64 t, .slice ao P.length cp]) ∧ Ns w' ao cp P ∧ Below w.heap.size w w'
theorem ns_lit (w w3 : World) (g : Nat) (l : List Pr) (ao : Option Addr) (cp : Nat) (hB : Bk w3 g [.bool false, .int .i64 0, .int .i64 0, .int .i64 0, .slice ao l.length cp, .int .i64 0]) (hp : Prs w3 ao cp l) : Ns w3 (some ⟨g, 0, none⟩) 1 (oneN l) :=
  ⟨by simp [oneN], by unfold maxLen; omega, fun i n hn => by
    match i, hn with
    | 0, hn =>
      simp [oneN] at hn
      subst hn
      exact ⟨g, 0, ao, cp, rfl, hB.at_ 0 _ rfl, hB.at_ 1 _ rfl, hB.at_ 2 _ rfl, hB.at_ 3 _ rfl, hB.at_ 4 _ rfl, hB.at_ 5 _ rfl, hp⟩⟩
set_option maxRecDepth 100000 in
set_option maxHeartbeats 6400000 in
theorem tone_any (a : Option Addr) (cap : Nat) (l : List Pr) (w : World) (h : Prs w a cap l) (hl : l.length ≤ 1100000) (L : List Pr) (hL : L = if Srt l then l else []) :
    Calls Try.prog 40 #[.slice a l.length cap] w (TnIs w 0 (oneN L)) := by
  have b1 : Below w.heap.size w (w.alloc (.cells #[.int .i64 0, .slice none 0 0] 24)) := al1 _
  have B1 := Lib.hid (Bk.new w #[.int .i64 0, .slice none 0 0] 24)
  have HB := Lib.hid b1
  have HH := Lib.hid (h.below b1)
  clear h b1
  by_cases hs : Srt l
  · rw [if_pos hs] at hL; subst hL
    have cm := lmay_any a cap L _ HH.out true (by simp [hs])
    have cc := fun W (hW : Prs W a cap L) => tcopied_any a cap L W hW (by omega)

    clear hs
    go_enter Try.func40, Try.ntmps40
    go_wp2_with (first
      | (go_at_call 53; ((with_reducible refine cm.mono ?_); clear cm; rintro e w2 ⟨rfl, hb2⟩; have HB2 := Lib.hid (show Below (w.alloc (.cells #[.int .i64 0, .slice none 0 0] 24)).heap.size (w.alloc (.cells #[.int .i64 0, .slice none 0 0] 24)) w2 from hb2); have R2 := Lib.hid (B1.out.keep hb2); clear hb2))
      | (go_at_call 77; ((with_reducible refine (cc _ (HH.out.below HB2.out)).mono ?_); clear cc; rintro e w3 ⟨ao, cp, rfl, hR, hb3⟩; have H3 := Lib.hid (And.intro hR (bel2 HB2.out hb3)); have R3 := Lib.hid (R2.out.keep hb3); clear hR hb3; have R4 := Lib.hid (R3.out.past (.cells #[.bool false, .int .i64 0, .int .i64 0, .int .i64 0, .slice ao L.length cp, .int .i64 0] 49)); have g0 := R4.out.fr 0; have g1 := R4.out.fr 1; have m0 := R4.out.at_ 0 _ rfl; have m1 := R4.out.at_ 1 _ rfl))
      | fail)
    refine bodyPost_ret (v := .agg #[.int .i64 0, .slice (some ⟨w3.heap.size, 0, none⟩) 1 1]) (by simp [results, Try.results40, go_sem, m0, m1]) rfl ⟨_, _, rfl, ?_, ?_⟩
    · have hp := ((H3.out.1.prs rfl).below (al1 (.cells #[.bool false, .int .i64 0, .int .i64 0, .int .i64 0, .slice ao L.length cp, .int .i64 0] 49)))
      have hO : Only (fun k => k = w.heap.size) (w3.alloc (.cells #[.bool false, .int .i64 0, .int .i64 0, .int .i64 0, .slice ao L.length cp, .int .i64 0] 49)) (((w3.alloc (.cells #[.bool false, .int .i64 0, .int .i64 0, .int .i64 0, .slice ao L.length cp, .int .i64 0] 49)).setCell ⟨w.heap.size, 0, none⟩ (.int .i64 0)).setCell ⟨w.heap.size, 1, none⟩ (.slice (some ⟨w3.heap.size, 0, none⟩) 1 1)) :=
        ((Only.refl _ _).setCell (S := fun k => k = w.heap.size) (p := ⟨w.heap.size, 0, none⟩) (.inl rfl) _).setCell (S := fun k => k = w.heap.size) (p := ⟨w.heap.size, 1, none⟩) (.inl rfl) _
      have hlt := R3.out.lt
      have hw2 := R2.out.lt
      exact ns_lit w _ w3.heap.size L ao cp ((Bk.new w3 #[.bool false, .int .i64 0, .int .i64 0, .int .i64 0, .slice ao L.length cp, .int .i64 0] 49).only hO (by show ¬ (_ = _); omega))
        (prs_only hp hO (fun hne b o sp e hb => by
          have h1 := H3.out.1.av b (by rw [e]; rfl)
          have h2 : ¬ b < w2.heap.size := h1
          omega))
    · have h2 := H3.out.2
      repeat' (first | refine Below.setCell ?_ (by dsimp only; omega) _ | refine Below.alloc ?_ (by have := R3.out.lt; omega) _ | exact bel2 HB.out H3.out.2)
  · rw [if_neg hs] at hL; subst hL
    have cm := lmay_any a cap l _ HH.out false (by simp [hs])
    have HH := Lib.hid (Prs.nil (w.alloc (.cells #[.int .i64 0, .slice none 0 0] 24)))
    have cc := fun W (hW : Prs W none 0 []) => tcopied_any none 0 [] W hW (by simp)
    simp only [List.length_nil] at cc
    clear hs
    go_enter Try.func40, Try.ntmps40
    go_wp2_with (first
      | (go_at_call 53; ((with_reducible refine cm.mono ?_); clear cm; rintro e w2 ⟨rfl, hb2⟩; have HB2 := Lib.hid (show Below (w.alloc (.cells #[.int .i64 0, .slice none 0 0] 24)).heap.size (w.alloc (.cells #[.int .i64 0, .slice none 0 0] 24)) w2 from hb2); have R2 := Lib.hid (B1.out.keep hb2); clear hb2))
      | (go_at_call 77; ((with_reducible refine (cc _ (HH.out.below HB2.out)).mono ?_); clear cc; rintro e w3 ⟨ao, cp, rfl, hR, hb3⟩; have H3 := Lib.hid (And.intro hR (bel2 HB2.out hb3)); have R3 := Lib.hid (R2.out.keep hb3); clear hR hb3; have R4 := Lib.hid (R3.out.past (.cells #[.bool false, .int .i64 0, .int .i64 0, .int .i64 0, .slice ao 0 cp, .int .i64 0] 49)); have g0 := R4.out.fr 0; have g1 := R4.out.fr 1; have m0 := R4.out.at_ 0 _ rfl; have m1 := R4.out.at_ 1 _ rfl))
      | fail)
    refine bodyPost_ret (v := .agg #[.int .i64 0, .slice (some ⟨w3.heap.size, 0, none⟩) 1 1]) (by simp [results, Try.results40, go_sem, m0, m1]) rfl ⟨_, _, rfl, ?_, ?_⟩
    · have hp := ((H3.out.1.prs rfl).below (al1 (.cells #[.bool false, .int .i64 0, .int .i64 0, .int .i64 0, .slice ao 0 cp, .int .i64 0] 49)))
      have hO : Only (fun k => k = w.heap.size) (w3.alloc (.cells #[.bool false, .int .i64 0, .int .i64 0, .int .i64 0, .slice ao 0 cp, .int .i64 0] 49)) (((w3.alloc (.cells #[.bool false, .int .i64 0, .int .i64 0, .int .i64 0, .slice ao 0 cp, .int .i64 0] 49)).setCell ⟨w.heap.size, 0, none⟩ (.int .i64 0)).setCell ⟨w.heap.size, 1, none⟩ (.slice (some ⟨w3.heap.size, 0, none⟩) 1 1)) :=
        ((Only.refl _ _).setCell (S := fun k => k = w.heap.size) (p := ⟨w.heap.size, 0, none⟩) (.inl rfl) _).setCell (S := fun k => k = w.heap.size) (p := ⟨w.heap.size, 1, none⟩) (.inl rfl) _
      have hlt := R3.out.lt
      have hw2 := R2.out.lt
      exact ns_lit w _ w3.heap.size [] ao cp ((Bk.new w3 #[.bool false, .int .i64 0, .int .i64 0, .int .i64 0, .slice ao 0 cp, .int .i64 0] 49).only hO (by show ¬ (_ = _); omega))
        (prs_only hp hO (fun hne b o sp e hb => by
          have h1 := H3.out.1.av b (by rw [e]; rfl)
          have h2 : ¬ b < w2.heap.size := h1
          omega))
    · have h2 := H3.out.2
      repeat' (first | refine Below.setCell ?_ (by dsimp only; omega) _ | refine Below.alloc ?_ (by have := R3.out.lt; omega) _ | exact bel2 HB.out H3.out.2)
end Go.Proofs.Ytijepfabkalcoaa

