/- osierref1.Plain, whatever the tree. No condition: a lemma. osierref1.CopyTree; a node appended onto a row of one's own. No condition: lemmas. Trees whose nodes lie at other places: what Plain tells is plain; its nodes turned round. No condition: lemmas. -/
import Derived.Test.YteebceecohhegaaTsC
import Derived.Test.YteebceecohhegaaPnE
namespace Go.Proofs.Yteebceecohhegaa
open Go.RowKit
set_option linter.all false
theorem rp_any {t : Int} {a : Option Addr} {cap : Nat} {N : List Nd} {x : Bool} {P : List Nd} (hsm : Small N) (h : PlO N t x P) : RP t a cap N x P := by
  intro W hN
  rcases h with ⟨s, h, rfl, rfl⟩ | ⟨h, rfl, rfl⟩
  · exact rplain_yes t a cap N W hN hsm s h
  · exact (rplain_no t a cap N W hN hsm h).mono (fun e w' h => ⟨none, 0, h.1, Ns.none _, h.2⟩)
#print axioms rp_any
end Go.Proofs.Yteebceecohhegaa

namespace Go.Proofs.Yteebceecohhegaa
open Go.RowKit
set_option linter.all false

/-- A node is appended onto a row of one's own. -/
theorem wpList_pushnd {w : World} {ops : Array Oper} {rest : List Oper} {o : Oper} {a : Act} {Q : Exit → Act → World → Prop}
    (hg : o.guard = none) (s x : Operand) (hop : o.op = Op.call { callee := Callee.builtin Builtin.append, args := #[s, x], argTypes := #[22, 22] })
    (Qs : Nat → Prop) (v : Value) (M : List RN) (hs : a.eval s = v) (h : NRow w Qs v M) (hQ : ∀ k, Qs k → k < w.heap.size)
    (m : RN) (hp : Prs w m.a m.c m.n.p) (hsep : m.n.p ≠ [] → ∀ b o sp, m.a = some ⟨b, o, sp⟩ → b < w.heap.size ∧ ¬ Qs b ∧ v.ownBlock ≠ some b)
    (g : Nat) (hx : a.eval x = .slice (some ⟨g, 0, none⟩) 1 1) (hB : Bk w g (cellN m)) (hM : M.length ≤ 10000) (n : Nat) (hn : M.length + 1 = n)
    (H : ∀ ao cap w', cap ≤ maxLen → n ≤ cap → NRow w' Qs (.slice ao n cap) (M ++ [m]) → Only (fun k => v.ownBlock = some k) w w' → (∀ k, (Value.slice ao n cap).ownBlock = some k → v.ownBlock = some k ∨ w.heap.size ≤ k) → wpList Try.prog ops Q rest (a.put o.dst (.slice ao n cap)) w') :
    wpList Try.prog ops Q (o :: rest) a w := by
  subst hn
  obtain ⟨i, hi, hz, hs1, hs2⟩ := info_parts infoNode
  refine wpList_own_append hg s x 22 hop 47 i _ 6 64 Try.underlying22 hi hz hs1 hs2 rfl (by decide) v M.length (cellsN M) hs h.row _ 1 (cellN m) hx
    (.inr ⟨_, _, rfl, fun j u hj => by rw [add_lit, Nat.zero_add]; exact hB.at_ j u hj⟩) (by simp [cellN]) (fun u hu => cellsN_one [m] u (by simpa [cellsN] using hu)) (by unfold maxLen; omega) (by omega) ?_
  intro v' w' hown hgr hk
  obtain ⟨ao, cap, rfl, h1, h2⟩ := row_form hown
  have hO : Only (fun k => v.ownBlock = some k) w w' := (Only.refl _ _).grown hgr (fun j hj _ => hj)
  refine H ao cap w' h2 h1 ⟨by simpa [cellsN_app, cellsN] using hown, fun k hk' hq => ?_, fun x hx => ?_⟩ hO hk
  · rcases hk k hk' with e | e
    · exact h.own k e hq
    · have := hQ k hq; omega
  · have lt_of : ∀ (p : List Pr) (pa : Option Addr) (pc : Nat), Prs w pa pc p → p ≠ [] → ∀ b o sp, pa = some ⟨b, o, sp⟩ → b < w.heap.size := fun p pa pc hp hne b o sp e => by
      obtain ⟨q, l, rfl⟩ := List.exists_cons_of_ne_nil hne
      obtain ⟨b', o', e', c0, _⟩ := hp.2.2.1 0 q rfl
      rw [e] at e'; cases e'
      exact World.block_lt_of_cell? w _ c0
    rcases List.mem_append.1 hx with hx | hx
    · obtain ⟨p1, p2⟩ := h.prs x hx
      refine ⟨prs_only p1 hO (fun hp b o sp e hh => (p2 hp b o sp e).2 hh), fun hp b o sp e => ⟨(p2 hp b o sp e).1, fun hh => ?_⟩⟩
      rcases hk b hh with e' | e'
      · exact (p2 hp b o sp e).2 e'
      · have := lt_of _ _ _ p1 hp b o sp e; omega
    · rw [List.mem_singleton.1 hx]
      refine ⟨prs_only hp hO (fun hne b o sp e hh => (hsep hne b o sp e).2.2 hh), fun hne b o sp e => ⟨(hsep hne b o sp e).2.1, fun hh => ?_⟩⟩
      rcases hk b hh with e' | e'
      · exact (hsep hne b o sp e).2.2 e'
      · have := (hsep hne b o sp e).1; omega
/-- A tree of one's own, alike. -/
def CpT (w : World) (t : Int) (N : List Nd) (e : Ending) (w' : World) : Prop :=
  ∃ ao c M, e = .returned (.agg #[.int .i64 t, .slice ao N.length c]) ∧ M.map (fun m => m.n) = N ∧ NRow w' (fun k => k < w.heap.size) (.slice ao N.length c) M ∧ Below w.heap.size w w'
/-- What holds all along. -/
structure Ct (w : World) (t : Int) (N : List Nd) (wr : World) (vo : Value) (M : List RN) (n : Nat) : Prop where
  m : M.map (fun m => m.n) = N.take n
  l : M.length = n
  r : NRow wr (fun k => k < w.heap.size + 3) vo M
  o : Bk wr (w.heap.size + 2) [.int .i64 t, vo]
  e : Bk wr (w.heap.size + 1) [.int .i64 0, .slice none 0 0]
  b : Below w.heap.size w wr
/-- One more node. -/
theorem Ct.next {w : World} {t : Int} {N : List Nd} {wr : World} {vo : Value} {M : List RN} {n : Nat} (h : Ct w t N wr vo M n) {x : Nd} (hx : N[n]? = some x) {W9 w4 : World} (h9 : Only (fun k => wr.heap.size ≤ k) wr W9) {ao : Option Addr} {ca : Nat} {a4 : Option Addr} {c4 : Nat}
    (hR : NRow w4 (fun k => k < w.heap.size + 3) (.slice a4 (n + 1) c4) (M ++ [⟨x, ao, ca⟩])) (hO : Only (fun k => vo.ownBlock = some k) W9 w4) :
    Ct w t N (w4.setCell ⟨w.heap.size + 2, 1, none⟩ (.slice a4 (n + 1) c4)) (.slice a4 (n + 1) c4) (M ++ [⟨x, ao, ca⟩]) (n + 1) := by
  have hq : ∀ k, vo.ownBlock = some k → ¬ k < w.heap.size + 3 := h.r.own
  have h2 := h.o.lt
  have hO2 : Only (fun k => k = w.heap.size + 2) w4 (w4.setCell ⟨w.heap.size + 2, 1, none⟩ (.slice a4 (n + 1) c4)) := (Only.refl _ w4).setCell (S := fun k => k = w.heap.size + 2) (p := ⟨w.heap.size + 2, 1, none⟩) (.inl rfl) _
  have o4 := (h.o.only h9 (by show ¬ (_ ≤ _); omega)).only hO (fun e => hq _ e (by omega))
  have e4 := ((h.e.only h9 (by show ¬ (_ ≤ _); omega)).only hO (fun e => hq _ e (by omega))).only hO2 (by show ¬ (_ = _); omega)
  refine ⟨?_, by simp [h.l], hR.only hO2 (fun k hk => by subst hk; show _ < _; omega), o4.set 1 _ (by simp), e4, ?_⟩
  · rw [List.map_append, h.m, List.take_add_one, hx]; rfl
  · have b9 : Below w.heap.size w W9 := h.b.trans (h9.below (B := w.heap.size) (fun i hi => by have : wr.heap.size ≤ i := hi; have := h.b.size; omega) h.b.size)
    have b4 : Below w.heap.size w w4 := b9.trans (hO.below (B := w.heap.size) (fun i hi => by have := hq i hi; omega) b9.size)
    exact b4.setCell (by show _ ≤ _ + 2; omega) _
set_option maxRecDepth 100000 in
set_option maxHeartbeats 6400000 in
theorem copytree_any (t : Int) (a : Option Addr) (cap : Nat) (N : List Nd) (w : World) (hN : Ns w a cap N) (hsm : Small N) :
    Calls Try.prog 33 #[trv t a cap N] w (CpT w t N) := by
  have hl1 := hsm.1
  have hc1 := hN.1
  have hc2 := hN.2.1
  unfold maxLen at hc2
  have C0 := Lib.hid (show Ct w t N (((w.alloc (.cells #[.int .i64 t, .slice a N.length cap] 24)).alloc (.cells #[.int .i64 0, .slice none 0 0] 24)).alloc (.cells #[.int .i64 t, .slice none 0 0] 24)) (.slice none 0 0) [] 0 from
    ⟨by simp, rfl, NRow.nil _ _, by
      have h := Bk.new ((w.alloc (.cells #[.int .i64 t, .slice a N.length cap] 24)).alloc (.cells #[.int .i64 0, .slice none 0 0] 24)) #[.int .i64 t, .slice none 0 0] 24
      simp only [World.size_alloc] at h; exact h, by
      have h := (Bk.new (w.alloc (.cells #[.int .i64 t, .slice a N.length cap] 24)) #[.int .i64 0, .slice none 0 0] 24).past (.cells #[.int .i64 t, .slice none 0 0] 24)
      simp only [World.size_alloc] at h; exact h, bel1 (bel1 (al1 _) _) _⟩)
  have HN := Lib.hid hN
  have HS := Lib.hid hsm
  unfold trv
  clear hN hsm
  go_enter Try.func33, Try.ntmps33
  go_wp2_with (fail)
  generalize (World.alloc _ _ : World) = W3 at *
  go_loopw [12] (fun i wr => ∃ (n : Nat) (vo : Value) (M : List RN), n ≤ N.length ∧ i = .int .i64 n ∧ Ct w t N wr vo M n) (fun i _ => N.length - (intOf i).toNat)
  case atStart => exact ⟨0, _, _, Nat.zero_le _, rfl, C0.out⟩
  case round =>
    obtain ⟨n, vo, M, hn, rfl, hC⟩ := hrel
    have HC := Lib.hid hC
    obtain ⟨av, cv, rfl, hcv, hmv⟩ := hC.r.form
    have o0 := hC.o.at_ 0 _ rfl
    have o1 := hC.o.at_ 1 _ rfl
    by_cases hlt : n < N.length
    · obtain ⟨x, hx⟩ : ∃ x, N[n]? = some x := ⟨_, List.getElem?_eq_getElem hlt⟩
      obtain ⟨b, o, pa, pc, rfl, hx1⟩ := (HN.out.keep hC.b).2.2 n x hx
      have hn0 : (0 : Int) ≤ (n : Int) := by omega
      have hnl : (n : Int) < (N.length : Int) := by omega
      have HPL := Lib.hid (HS.out.at hx)
      have HX := Lib.hid hx
      have HP := Lib.hid hx1.ps
      obtain ⟨e0, e1, e2, e3, e4, e5, -⟩ := hx1
      obtain ⟨r, k, l, bb, p, st⟩ := x
      dsimp only at e0 e1 e2 e3 e4 e5 HP HPL
      have B8 := Lib.hid (Bk.new wr #[.bool r, .int .i64 k, .int .i64 l, .int .i64 bb, .slice pa p.length pc, .int .i64 st] 47)
      have HSRC := Lib.hid (src_any (HP.out.below (al1 (.cells #[.bool r, .int .i64 k, .int .i64 l, .int .i64 bb, .slice pa p.length pc, .int .i64 st] 47))))
      have HLL := Lib.hid (show ([] : List Pr).length + p.length ≤ 10000000 by have := HPL.out; simp; omega)
      have HEE := Lib.hid (show ([] : List Pr).length + p.length = p.length by simp)
      have HL := Lib.hid hC.l
      clear hx hC hmv hcv
      go_upto_region 6 with (at_builtin; refine wpList_app rfl _ (.tmp 17) rfl (fun j => j < (wr.alloc (.cells #[.bool r, .int .i64 k, .int .i64 l, .int .i64 bb, .slice pa p.length pc, .int .i64 st] 47)).heap.size) _ [] p rfl (PRow.nil _ _) (fun k hk => hk) _ rfl HSRC.out HLL.out _ HEE.out _ rfl ?_; intro ao7 cp7 w7 hm7 hc7 hR7 hO7; have H7 := Lib.hid (And.intro hR7 (only_lt (Below.refl _ _) hO7)); have x4b := (B8.out.keep H7.out.2).at_ 4 _ rfl; have f4b := (B8.out.keep H7.out.2).fr 4; clear hR7 hO7; unfold maxLen at hm7)
      have O8 := Lib.hid ((((Only.refl (fun k => wr.heap.size ≤ k) wr).alloc (.cells #[.bool r, .int .i64 k, .int .i64 l, .int .i64 bb, .slice pa p.length pc, .int .i64 st] 47)).trans (Only.ofBelow H7.out.2) (fun i hi _ => hi)).setCell (S := fun k => wr.heap.size ≤ k) (p := ⟨wr.heap.size, 4, none⟩) (.inl (Nat.le_refl _)) (.slice ao7 p.length cp7))
      have hg7 : wr.heap.size < w7.heap.size := (B8.out.keep H7.out.2).lt
      have X8 := Lib.hid ((B8.out.keep H7.out.2).set 4 (.slice ao7 p.length cp7) (by simp))
      have hO1 : Only (fun k => k = wr.heap.size) w7 (w7.setCell ⟨wr.heap.size, 4, none⟩ (.slice ao7 p.length cp7)) := (Only.refl _ w7).setCell (S := fun k => k = wr.heap.size) (p := ⟨wr.heap.size, 4, none⟩) (.inl rfl) _
      have R8 := Lib.hid ((((HC.out.r.sub (Q' := fun k => k < w.heap.size + 3 ∨ k = wr.heap.size) (fun k hk hq => hq.elim id (fun e => absurd hk (by omega)))).keep (bel2 (al1 (.cells #[.bool r, .int .i64 k, .int .i64 l, .int .i64 bb, .slice pa p.length pc, .int .i64 st] 47)) H7.out.2))).only hO1 (fun k hk => .inr hk))
      have D8 := Lib.hid (show Prs (w7.setCell ⟨wr.heap.size, 4, none⟩ (.slice ao7 p.length cp7)) ao7 cp7 p from prs_only (H7.out.1.prs rfl) hO1 (fun _ b o sp e hb => by
        have h1 : ¬ b < (wr.alloc (.cells #[.bool r, .int .i64 k, .int .i64 l, .int .i64 bb, .slice pa p.length pc, .int .i64 st] 47)).heap.size := H7.out.1.av b (by rw [e]; rfl)
        simp only [World.size_alloc] at h1
        omega))
      have SEP := Lib.hid (show ∀ b o sp, ao7 = some ⟨b, o, sp⟩ → b < w7.heap.size ∧ ¬ (b < w.heap.size + 3 ∨ b = wr.heap.size) ∧ (Value.slice av M.length cv).ownBlock ≠ some b from fun b o sp e => by
        have h1 : ¬ b < (wr.alloc (.cells #[.bool r, .int .i64 k, .int .i64 l, .int .i64 bb, .slice pa p.length pc, .int .i64 st] 47)).heap.size := H7.out.1.av b (by rw [e]; rfl)
        simp only [World.size_alloc] at h1
        have h2 := (H7.out.1.row.lt b (by rw [e]; rfl)).2
        have h3 := HC.out.o.lt
        refine ⟨h2, fun h => by omega, fun h => ?_⟩
        have := (HC.out.r.row.lt b h).2
        omega)
      have Z8 := Lib.hid (HC.out.o.only O8.out (by have := HC.out.o.lt; show ¬ (_ ≤ _); omega))
      clear x4b f4b o0 o1 hO1
      have HW8 := Lib.hid (show w7.heap.size = (w7.setCell ⟨wr.heap.size, 4, none⟩ (.slice ao7 p.length cp7)).heap.size from by simp [World.setCell])
      have HG := Lib.hid (show wr.heap.size < w7.heap.size ∧ w.heap.size + 2 < wr.heap.size from ⟨hg7, HC.out.o.lt⟩)
      clear hg7 B8 HSRC e0 e1 e2 e3 e4 e5
      generalize (World.setCell w7 _ _ : World) = W8 at *
      have o1 := Z8.out.at_ 1 _ rfl
      have y0 := X8.out.at_ 0 _ rfl
      have y1 := X8.out.at_ 1 _ rfl
      have y2 := X8.out.at_ 2 _ rfl
      have y3 := X8.out.at_ 3 _ rfl
      have y4 := X8.out.at_ 4 _ rfl
      have y5 := X8.out.at_ 5 _ rfl
      have R9 := Lib.hid (R8.out.keep (al1 (.cells #[.bool r, .int .i64 k, .int .i64 l, .int .i64 bb, .slice ao7 p.length cp7, .int .i64 st] 47)))
      have D9 := Lib.hid (D8.out.below (al1 (.cells #[.bool r, .int .i64 k, .int .i64 l, .int .i64 bb, .slice ao7 p.length cp7, .int .i64 st] 47)))
      have B9 := Lib.hid (Bk.new W8 #[.bool r, .int .i64 k, .int .i64 l, .int .i64 bb, .slice ao7 p.length cp7, .int .i64 st] 47)
      have Z9 := Lib.hid (Z8.out.past (.cells #[.bool r, .int .i64 k, .int .i64 l, .int .i64 bb, .slice ao7 p.length cp7, .int .i64 st] 47))
      have O9 := Lib.hid (O8.out.alloc (.cells #[.bool r, .int .i64 k, .int .i64 l, .int .i64 bb, .slice ao7 p.length cp7, .int .i64 st] 47))
      have HQ9 := Lib.hid (show ∀ j, (j < w.heap.size + 3 ∨ j = wr.heap.size) → j < (W8.alloc (.cells #[.bool r, .int .i64 k, .int .i64 l, .int .i64 bb, .slice ao7 p.length cp7, .int .i64 st] 47)).heap.size from fun j hj => by
        have := HG.out; have := HW8.out; simp only [World.size_alloc]; omega)
      have HS9 := Lib.hid (show p ≠ [] → ∀ b o sp, ao7 = some ⟨b, o, sp⟩ → b < (W8.alloc (.cells #[.bool r, .int .i64 k, .int .i64 l, .int .i64 bb, .slice ao7 p.length cp7, .int .i64 st] 47)).heap.size ∧ ¬ (b < w.heap.size + 3 ∨ b = wr.heap.size) ∧ (Value.slice av M.length cv).ownBlock ≠ some b from fun _ b o sp e => ⟨by
        have := (SEP.out b o sp e).1; have := HW8.out; simp only [World.size_alloc]; omega, (SEP.out b o sp e).2⟩)
      have HM9 := Lib.hid (show M.length ≤ 10000 by rw [HL.out]; omega)
      have HN9 := Lib.hid (show M.length + 1 = n + 1 by rw [HL.out])
      have HNQ := Lib.hid (show ¬ ((Value.slice av M.length cv).ownBlock = some (w.heap.size + 2)) from fun e => HC.out.r.own _ e (by show _ < _; omega))
      go_wp2_with (at_builtin; refine wpList_pushnd rfl (.tmp 21) (.tmp 23) rfl (fun k => k < w.heap.size + 3 ∨ k = wr.heap.size) _ M rfl R9.out HQ9.out ⟨⟨r, k, l, bb, p, st⟩, ao7, cp7⟩ D9.out HS9.out W8.heap.size rfl B9.out HM9.out (n + 1) HN9.out ?_; intro a4 c4 w4 hm4 hc4 hR4 hO4 hk4; have R4 := Lib.hid (And.intro hR4 hO4); have z := Z9.out.only hO4 HNQ.out; have z1 := z.at_ 1 _ rfl; have zf := z.fr 1; clear hR4 hO4 hk4 z; unfold maxLen at hm4)
      go_roundw
      case rel => exact ⟨n + 1, _, _, by omega, by go_num, HC.out.next HX.out O9.out (R4.out.1.sub (fun k _ hk => .inl hk)) R4.out.2⟩
      case measure => simp [intOf]; omega
    · obtain rfl : n = N.length := by omega
      have HL := hC.l
      rw [HL] at o1
      have r0 := hC.e.at_ 0 _ rfl
      have r1 := hC.e.at_ 1 _ rfl
      have f0 := hC.e.fr 0
      have f1 := hC.e.fr 1
      have hO : Only (fun k => k = w.heap.size + 1) wr ((wr.setCell ⟨w.heap.size + 1, 0, none⟩ (.int .i64 t)).setCell ⟨w.heap.size + 1, 1, none⟩ (.slice av N.length cv)) :=
        ((Only.refl _ wr).setCell (S := fun k => k = w.heap.size + 1) (p := ⟨w.heap.size + 1, 0, none⟩) (.inl rfl) _).setCell (S := fun k => k = w.heap.size + 1) (p := ⟨w.heap.size + 1, 1, none⟩) (.inl rfl) _
      have FIN := Lib.hid (show CpT w t N (.returned (.agg #[.int .i64 t, .slice av N.length cv])) ((wr.setCell ⟨w.heap.size + 1, 0, none⟩ (.int .i64 t)).setCell ⟨w.heap.size + 1, 1, none⟩ (.slice av N.length cv)) from by
        refine ⟨av, cv, M, rfl, by rw [hC.m, List.take_length], ?_, (hC.b.setCell (by show _ ≤ _ + 1; omega) _).setCell (by show _ ≤ _ + 1; omega) _⟩
        have h := (hC.r.only hO (fun k hk => by subst hk; show _ < _; omega)).sub (Q' := fun k => k < w.heap.size) (fun k _ hk => by show _ < _; omega)
        rw [HL] at h
        exact h)
      clear hO HL hC hmv hcv
      go_wp2_with (fail)
      exact bodyPost_ret (v := .agg #[.int .i64 t, .slice av N.length cv]) (by simp [results, Try.results33, go_sem, r0, r1]) rfl FIN.out
#print axioms copytree_any
end Go.Proofs.Yteebceecohhegaa

namespace Go.Proofs.Yteebceecohhegaa
open Go.RowKit
set_option linter.all false

theorem tr_moved {N M : List Nd} {s : Sh} {t : Int} {f : Nat → Nat} (h : Tr N s t) (hm : Moved f N M s) (hl : M.length = N.length) (hinj : ∀ i ∈ s.pre, ∀ j ∈ s.pre, f i = f j → i = j) : Tr M (s.map f) ((f s.top : Nat) : Int) :=
  ⟨by rw [hl]; exact h.le, hangs_map hm h.hg, by
    rw [Sh.pre_map]
    exact List.pairwise_map.2 (List.Pairwise.imp_of_mem (fun {a b} ha hb hne e => hne (hinj a ha b hb e)) h.nd), by rw [Sh.pre_map, List.length_map, h.all, hl]⟩
theorem idx_at {l : List Nat} (h : l.Nodup) {j x : Nat} (hx : l[j]? = some x) : l.idxOf x = 0 + j := by
  have hm : x ∈ l := List.mem_of_getElem? hx
  have h1 : l.idxOf x < l.length := List.idxOf_lt_length_of_mem hm
  have h2 : l[l.idxOf x]? = some x := by rw [List.getElem?_eq_getElem h1, List.getElem_idxOf h1]
  have := nodup_at h h2 hx
  omega
theorem plain_tr {N : List Nd} {s : Sh} {t : Int} (h : Tr N s t) : ∃ s', Tr (lay N s 0) s' 0 ∧ lay (lay N s 0) s' 0 = lay N s 0 ∧ allP (lay N s 0) s'.lvs = allP N s.lvs := by
  have hlm := lay_map (f := fun x => s.pre.idxOf x) (c := 0) h.hg (fun j x hx => idx_at h.nd hx)
  have hmv : Moved (fun x => s.pre.idxOf x) N (lay N s 0) s := fun i hi n hn => by
    obtain ⟨j, hj⟩ := List.getElem?_of_mem hi
    have e := idx_at h.nd hj
    show (lay N s 0)[s.pre.idxOf i]? = _
    rw [e, Nat.zero_add, hlm, List.getElem?_map, hj]
    simp [nd_of hn]
  have htop : s.pre.idxOf s.top = 0 := by have := idx_at h.nd s.pre_top; omega
  have ht := tr_moved h hmv (by rw [lay_len, h.all]) (fun i hi j hj e => by
    obtain ⟨a, ha⟩ := List.getElem?_of_mem hi
    obtain ⟨b, hb⟩ := List.getElem?_of_mem hj
    have e1 := idx_at h.nd ha
    have e2 := idx_at h.nd hb
    have e3 : s.pre.idxOf i = s.pre.idxOf j := e
    have : a = b := by omega
    rw [this, hb] at ha
    exact (Option.some.inj ha).symm)
  refine ⟨s.map _, by rw [show (0 : Int) = ((s.pre.idxOf s.top : Nat) : Int) from by rw [htop]; rfl]; exact ht, lay_moved hmv h.hg, allP_moved hmv h.hg⟩
theorem mod_two {i k n : Nat} (hi : i < n) (hk : k < n) : (i + k) % n = if i + k < n then i + k else i + k - n := by
  split
  · exact Nat.mod_eq_of_lt (by assumption)
  · rw [Nat.mod_eq_sub_mod (by omega), Nat.mod_eq_of_lt (by omega)]
theorem turned_tr {P U : List Nd} {s : Sh} {k : Nat} (h : Tr P s 0) (hk : k < P.length) (hl : U.length = P.length) (hU : ∀ i x, P[i]? = some x → U[(i + k) % P.length]? = some (fixn (fun j => (j + k) % P.length) x)) :
    ∃ s', Tr U s' (k : Int) ∧ lay U s' 0 = lay P s 0 ∧ allP U s'.lvs = allP P s.lvs := by
  have hmv : Moved (fun j => (j + k) % P.length) P U s := fun i hi n hn => hU i n hn
  have htop : s.top = 0 := by have := h.hg.top; omega
  have ht := tr_moved h hmv hl (fun i hi j hj e => by
    have h1 := h.hg.lt i hi
    have h2 := h.hg.lt j hj
    have e : (i + k) % P.length = (j + k) % P.length := e
    rw [mod_two h1 hk, mod_two h2 hk] at e
    split at e <;> split at e <;> omega)
  refine ⟨s.map _, ?_, lay_moved hmv h.hg, allP_moved hmv h.hg⟩
  have e : ((s.top + k) % P.length : Nat) = k := by rw [htop, Nat.zero_add]; exact Nat.mod_eq_of_lt hk
  simp only [e] at ht
  exact ht
theorem tmod_at {i k n : Nat} (hn : n ≤ 2000) (hi : i < n) (hk : k < n) : wrap64 ((i : Int) + (k : Int)) = ((i + k : Nat) : Int) ∧ ((i + k : Nat) : Int).tmod (n : Int) = (((i + k) % n : Nat) : Int) ∧ (i + k) % n < n := by
  refine ⟨by unfold wrap64; omega, by rw [Int.tmod_eq_emod_of_nonneg (by omega)]; omega, Nat.mod_lt _ (by omega)⟩
theorem fixn_p (f : Nat → Nat) (z : Nd) : (fixn f z).p = z.p := by unfold fixn; split <;> rfl
theorem small_of_lay {U : List Nd} {s : Sh} {t : Int} (h : Tr U s t) (hs : Small (lay U s 0)) : Small U :=
  ⟨by have := hs.1; rw [lay_len, h.all] at this; exact this, fun z hz => by
    obtain ⟨y, hy⟩ := List.getElem?_of_mem hz
    have hm := h.mem (List.getElem?_eq_some_iff.1 hy).1
    have hlm := lay_map (f := fun x => s.pre.idxOf x) (c := 0) h.hg (fun j x hx => idx_at h.nd hx)
    have hin : fixn (fun x => s.pre.idxOf x) z ∈ lay U s 0 := by
      rw [hlm]
      exact List.mem_map.2 ⟨y, hm, by rw [nd_of hy]⟩
    have := hs.2 _ hin
    rw [fixn_p] at this
    exact this⟩
#print axioms small_of_lay
#print axioms plain_tr
#print axioms turned_tr
#print axioms tmod_at
end Go.Proofs.Yteebceecohhegaa
