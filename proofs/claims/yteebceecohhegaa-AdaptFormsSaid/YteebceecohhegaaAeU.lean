/- osierref1.CopyTree once more: each node's pairs lie in memory of their own. No condition: lemmas. -/
import Derived.Test.YteebceecohhegaaAeT
namespace Go.Proofs.Yteebceecohhegaa
open Go.RowKit
set_option linter.all false

/-- Each node's pairs are a row of its own. -/
def OwnP (W : World) (B : Nat) (v : Value) (M : List RN) : Prop :=
  ∀ (i : Nat) (m : RN), M[i]? = some m → PRow W (fun k => k < B ∨ v.ownBlock = some k ∨ ∃ (j : Nat) (mj : RN), j ≠ i ∧ M[j]? = some mj ∧ (Value.slice mj.a mj.n.p.length mj.c).ownBlock = some k) (.slice m.a m.n.p.length m.c) m.n.p
theorem OwnP.nil (W : World) (B : Nat) (v : Value) : OwnP W B v [] := fun i m h => by simp at h
theorem OwnP.only {W W' : World} {B : Nat} {v : Value} {M : List RN} {S : Nat → Prop} (h : OwnP W B v M) (o : Only S W W') (hS : ∀ k, S k → k < B) : OwnP W' B v M := fun i m hm =>
  ⟨o.row (h i m hm).row (fun k hk hs => (h i m hm).av k hk (.inl (hS k hs))), (h i m hm).av⟩
theorem OwnP.less {W : World} {B B' : Nat} {v : Value} {M : List RN} (h : OwnP W B v M) (hB : B' ≤ B) : OwnP W B' v M := fun i m hm =>
  (h i m hm).sub (fun k _ hk => hk.imp (fun e => Nat.lt_of_lt_of_le e hB) id)
theorem OwnP.more {w4 W9 wr : World} {B : Nat} {vo v4 : Value} {M : List RN} (h : OwnP wr B vo M) (hB : B ≤ wr.heap.size) (hvo : ∀ k, vo.ownBlock = some k → k < wr.heap.size) {x : RN} (h9 : Only (fun k => wr.heap.size ≤ k) wr W9) (hO : Only (fun k => vo.ownBlock = some k) W9 w4)
    (hk : ∀ k, v4.ownBlock = some k → vo.ownBlock = some k ∨ W9.heap.size ≤ k) (hP : W9.ownsRow 0 54 2 (.slice x.a x.n.p.length x.c) x.n.p.length (cellsP x.n.p)) (hA : ∀ k, (Value.slice x.a x.n.p.length x.c).ownBlock = some k → wr.heap.size ≤ k) : OwnP w4 B v4 (M ++ [x]) := by
  have s9 := h9.size
  intro i m hm
  rcases Nat.lt_or_ge i M.length with hi | hi
  · rw [List.getElem?_append_left hi] at hm
    have hp := h i m hm
    have hlt : ∀ k, (Value.slice m.a m.n.p.length m.c).ownBlock = some k → k < wr.heap.size := fun k hk => (hp.row.lt k hk).2
    refine ⟨hO.row (h9.row hp.row (fun k hk e => by have := hlt k hk; omega)) (fun k hk e => hp.av k hk (.inr (.inl e))), fun k hk' hs => ?_⟩
    rcases hs with e | e | ⟨j, mj, hj, hmj, e⟩
    · exact hp.av k hk' (.inl e)
    · rcases hk k e with e | e
      · exact hp.av k hk' (.inr (.inl e))
      · have := hlt k hk'; omega
    · rcases Nat.lt_or_ge j M.length with hjl | hjl
      · rw [List.getElem?_append_left hjl] at hmj
        exact hp.av k hk' (.inr (.inr ⟨j, mj, hj, hmj, e⟩))
      · rw [List.getElem?_append_right hjl, List.getElem?_singleton] at hmj
        split at hmj
        · cases hmj
          have := hA k e; have := hlt k hk'; omega
        · cases hmj
  · rw [List.getElem?_append_right hi, List.getElem?_singleton] at hm
    split at hm
    · cases hm
      refine ⟨hO.row hP (fun k hk e => by have := hA k hk; have := hvo k e; omega), fun k hk' hs => ?_⟩
      have hlo := hA k hk'
      have hhi := (hP.lt k hk').2
      rcases hs with e | e | ⟨j, mj, hj, hmj, e⟩
      · omega
      · rcases hk k e with e | e
        · have := hvo k e; omega
        · omega
      · rcases Nat.lt_or_ge j M.length with hjl | hjl
        · rw [List.getElem?_append_left hjl] at hmj
          have := ((h j mj hmj).row.lt k e).2
          omega
        · have h1 := (List.getElem?_eq_some_iff.1 hmj).1
          simp at h1
          omega
    · cases hm
def CpU (w : World) (t : Int) (N : List Nd) (e : Ending) (w' : World) : Prop :=
  ∃ ao c M, e = .returned (.agg #[.int .i64 t, .slice ao N.length c]) ∧ M.map (fun m => m.n) = N ∧ NRow w' (fun k => k < w.heap.size) (.slice ao N.length c) M ∧ OwnP w' w.heap.size (.slice ao N.length c) M ∧ Below w.heap.size w w'
/-- What holds all along. -/
structure Cu (w : World) (t : Int) (N : List Nd) (wr : World) (vo : Value) (M : List RN) (n : Nat) : Prop where
  m : M.map (fun m => m.n) = N.take n
  l : M.length = n
  r : NRow wr (fun k => k < w.heap.size + 3) vo M
  op : OwnP wr (w.heap.size + 3) vo M
  o : Bk wr (w.heap.size + 2) [.int .i64 t, vo]
  e : Bk wr (w.heap.size + 1) [.int .i64 0, .slice none 0 0]
  b : Below w.heap.size w wr
/-- One more node. -/
theorem Cu.next {w : World} {t : Int} {N : List Nd} {wr : World} {vo : Value} {M : List RN} {n : Nat} (h : Cu w t N wr vo M n) {x : Nd} (hx : N[n]? = some x) {W9 w4 : World} (h9 : Only (fun k => wr.heap.size ≤ k) wr W9) {ao : Option Addr} {ca : Nat} {a4 : Option Addr} {c4 : Nat}
    (hR : NRow w4 (fun k => k < w.heap.size + 3) (.slice a4 (n + 1) c4) (M ++ [⟨x, ao, ca⟩])) (hO : Only (fun k => vo.ownBlock = some k) W9 w4)
    (hk : ∀ k, (Value.slice a4 (n + 1) c4).ownBlock = some k → vo.ownBlock = some k ∨ W9.heap.size ≤ k) (hP : W9.ownsRow 0 54 2 (.slice ao x.p.length ca) x.p.length (cellsP x.p)) (hA : ∀ k, (Value.slice ao x.p.length ca).ownBlock = some k → wr.heap.size ≤ k) :
    Cu w t N (w4.setCell ⟨w.heap.size + 2, 1, none⟩ (.slice a4 (n + 1) c4)) (.slice a4 (n + 1) c4) (M ++ [⟨x, ao, ca⟩]) (n + 1) := by
  have hq : ∀ k, vo.ownBlock = some k → ¬ k < w.heap.size + 3 := h.r.own
  have h2 := h.o.lt
  have hO2 : Only (fun k => k = w.heap.size + 2) w4 (w4.setCell ⟨w.heap.size + 2, 1, none⟩ (.slice a4 (n + 1) c4)) := (Only.refl _ w4).setCell (S := fun k => k = w.heap.size + 2) (p := ⟨w.heap.size + 2, 1, none⟩) (.inl rfl) _
  have o4 := (h.o.only h9 (by show ¬ (_ ≤ _); omega)).only hO (fun e => hq _ e (by omega))
  have e4 := ((h.e.only h9 (by show ¬ (_ ≤ _); omega)).only hO (fun e => hq _ e (by omega))).only hO2 (by show ¬ (_ = _); omega)
  refine ⟨?_, by simp [h.l], hR.only hO2 (fun k hk => by subst hk; show _ < _; omega), (OwnP.more (x := ⟨x, ao, ca⟩) h.op (by have := h.o.lt; omega) (fun k hk => (h.r.row.lt k hk).2) h9 hO hk hP hA).only hO2 (fun k hk => by subst hk; show _ < _; omega), o4.set 1 _ (by simp), e4, ?_⟩
  · rw [List.map_append, h.m, List.take_add_one, hx]; rfl
  · have b9 : Below w.heap.size w W9 := h.b.trans (h9.below (B := w.heap.size) (fun i hi => by have : wr.heap.size ≤ i := hi; have := h.b.size; omega) h.b.size)
    have b4 : Below w.heap.size w w4 := b9.trans (hO.below (B := w.heap.size) (fun i hi => by have := hq i hi; omega) b9.size)
    exact b4.setCell (by show _ ≤ _ + 2; omega) _
set_option maxRecDepth 100000 in
set_option maxHeartbeats 6400000 in
theorem copyown_any (t : Int) (a : Option Addr) (cap : Nat) (N : List Nd) (w : World) (hN : Ns w a cap N) (hsm : Small N) :
    Calls Try.prog 33 #[trv t a cap N] w (CpU w t N) := by
  have hl1 := hsm.1
  have hc1 := hN.1
  have hc2 := hN.2.1
  unfold maxLen at hc2
  have C0 := Lib.hid (show Cu w t N (((w.alloc (.cells #[.int .i64 t, .slice a N.length cap] 24)).alloc (.cells #[.int .i64 0, .slice none 0 0] 24)).alloc (.cells #[.int .i64 t, .slice none 0 0] 24)) (.slice none 0 0) [] 0 from
    ⟨by simp, rfl, NRow.nil _ _, OwnP.nil _ _ _, by
      have h := Bk.new ((w.alloc (.cells #[.int .i64 t, .slice a N.length cap] 24)).alloc (.cells #[.int .i64 0, .slice none 0 0] 24)) #[.int .i64 t, .slice none 0 0] 24
      simp only [World.size_alloc] at h; exact h, by
      have h := (Bk.new (w.alloc (.cells #[.int .i64 t, .slice a N.length cap] 24)) #[.int .i64 0, .slice none 0 0] 24).past (.cells #[.int .i64 t, .slice none 0 0] 24)
      simp only [World.size_alloc] at h; exact h, bel1 (bel1 (al1 _) _) _⟩)
  have HN := Lib.hid hN
  have HS := Lib.hid hsm
  unfold trv
  clear hN hsm
  go_enter Try.func33, Try.ntmps33
  go_wp2_with (fail)
  generalize (World.alloc _ _ : World) = W3 at *
  go_loopw [12] (fun i wr => ∃ (n : Nat) (vo : Value) (M : List RN), n ≤ N.length ∧ i = .int .i64 n ∧ Cu w t N wr vo M n) (fun i _ => N.length - (intOf i).toNat)
  case atStart => exact ⟨0, _, _, Nat.zero_le _, rfl, C0.out⟩
  case round =>
    obtain ⟨n, vo, M, hn, rfl, hC⟩ := hrel
    have HC := Lib.hid hC
    obtain ⟨av, cv, rfl, hcv, hmv⟩ := hC.r.form
    have o0 := hC.o.at_ 0 _ rfl
    have o1 := hC.o.at_ 1 _ rfl
    by_cases hlt : n < N.length
    · obtain ⟨x, hx⟩ : ∃ x, N[n]? = some x := ⟨_, List.getElem?_eq_getElem hlt⟩
      obtain ⟨b, o, pa, pc, rfl, hx1⟩ := (HN.out.keep hC.b).2.2 n x hx
      have hn0 : (0 : Int) ≤ (n : Int) := by omega
      have hnl : (n : Int) < (N.length : Int) := by omega
      have HPL := Lib.hid (HS.out.at hx)
      have HX := Lib.hid hx
      have HP := Lib.hid hx1.ps
      obtain ⟨e0, e1, e2, e3, e4, e5, -⟩ := hx1
      obtain ⟨r, k, l, bb, p, st⟩ := x
      dsimp only at e0 e1 e2 e3 e4 e5 HP HPL
      have B8 := Lib.hid (Bk.new wr #[.bool r, .int .i64 k, .int .i64 l, .int .i64 bb, .slice pa p.length pc, .int .i64 st] 47)
      have HSRC := Lib.hid (src_any (HP.out.below (al1 (.cells #[.bool r, .int .i64 k, .int .i64 l, .int .i64 bb, .slice pa p.length pc, .int .i64 st] 47))))
      have HLL := Lib.hid (show ([] : List Pr).length + p.length ≤ 10000000 by have := HPL.out; simp; omega)
      have HEE := Lib.hid (show ([] : List Pr).length + p.length = p.length by simp)
      have HL := Lib.hid hC.l
      clear hx hC hmv hcv
      go_upto_region 6 with (at_builtin; refine wpList_app rfl _ (.tmp 17) rfl (fun j => j < (wr.alloc (.cells #[.bool r, .int .i64 k, .int .i64 l, .int .i64 bb, .slice pa p.length pc, .int .i64 st] 47)).heap.size) _ [] p rfl (PRow.nil _ _) (fun k hk => hk) _ rfl HSRC.out HLL.out _ HEE.out _ rfl ?_; intro ao7 cp7 w7 hm7 hc7 hR7 hO7; have H7 := Lib.hid (And.intro hR7 (only_lt (Below.refl _ _) hO7)); have x4b := (B8.out.keep H7.out.2).at_ 4 _ rfl; have f4b := (B8.out.keep H7.out.2).fr 4; clear hR7 hO7; unfold maxLen at hm7)
      have O8 := Lib.hid ((((Only.refl (fun k => wr.heap.size ≤ k) wr).alloc (.cells #[.bool r, .int .i64 k, .int .i64 l, .int .i64 bb, .slice pa p.length pc, .int .i64 st] 47)).trans (Only.ofBelow H7.out.2) (fun i hi _ => hi)).setCell (S := fun k => wr.heap.size ≤ k) (p := ⟨wr.heap.size, 4, none⟩) (.inl (Nat.le_refl _)) (.slice ao7 p.length cp7))
      have hg7 : wr.heap.size < w7.heap.size := (B8.out.keep H7.out.2).lt
      have X8 := Lib.hid ((B8.out.keep H7.out.2).set 4 (.slice ao7 p.length cp7) (by simp))
      have hO1 : Only (fun k => k = wr.heap.size) w7 (w7.setCell ⟨wr.heap.size, 4, none⟩ (.slice ao7 p.length cp7)) := (Only.refl _ w7).setCell (S := fun k => k = wr.heap.size) (p := ⟨wr.heap.size, 4, none⟩) (.inl rfl) _
      have R8 := Lib.hid ((((HC.out.r.sub (Q' := fun k => k < w.heap.size + 3 ∨ k = wr.heap.size) (fun k hk hq => hq.elim id (fun e => absurd hk (by omega)))).keep (bel2 (al1 (.cells #[.bool r, .int .i64 k, .int .i64 l, .int .i64 bb, .slice pa p.length pc, .int .i64 st] 47)) H7.out.2))).only hO1 (fun k hk => .inr hk))
      have D8 := Lib.hid (show Prs (w7.setCell ⟨wr.heap.size, 4, none⟩ (.slice ao7 p.length cp7)) ao7 cp7 p from prs_only (H7.out.1.prs rfl) hO1 (fun _ b o sp e hb => by
        have h1 : ¬ b < (wr.alloc (.cells #[.bool r, .int .i64 k, .int .i64 l, .int .i64 bb, .slice pa p.length pc, .int .i64 st] 47)).heap.size := H7.out.1.av b (by rw [e]; rfl)
        simp only [World.size_alloc] at h1
        omega))
      have P8 := Lib.hid (show PRow (w7.setCell ⟨wr.heap.size, 4, none⟩ (.slice ao7 p.length cp7)) (fun j => j < (wr.alloc (.cells #[.bool r, .int .i64 k, .int .i64 l, .int .i64 bb, .slice pa p.length pc, .int .i64 st] 47)).heap.size) (.slice ao7 p.length cp7) p from ⟨hO1.row H7.out.1.row (fun k hk e => H7.out.1.av k hk (by subst e; simp)), H7.out.1.av⟩)
      have SEP := Lib.hid (show ∀ b o sp, ao7 = some ⟨b, o, sp⟩ → b < w7.heap.size ∧ ¬ (b < w.heap.size + 3 ∨ b = wr.heap.size) ∧ (Value.slice av M.length cv).ownBlock ≠ some b from fun b o sp e => by
        have h1 : ¬ b < (wr.alloc (.cells #[.bool r, .int .i64 k, .int .i64 l, .int .i64 bb, .slice pa p.length pc, .int .i64 st] 47)).heap.size := H7.out.1.av b (by rw [e]; rfl)
        simp only [World.size_alloc] at h1
        have h2 := (H7.out.1.row.lt b (by rw [e]; rfl)).2
        have h3 := HC.out.o.lt
        refine ⟨h2, fun h => by omega, fun h => ?_⟩
        have := (HC.out.r.row.lt b h).2
        omega)
      have Z8 := Lib.hid (HC.out.o.only O8.out (by have := HC.out.o.lt; show ¬ (_ ≤ _); omega))
      clear x4b f4b o0 o1 hO1
      have HW8 := Lib.hid (show w7.heap.size = (w7.setCell ⟨wr.heap.size, 4, none⟩ (.slice ao7 p.length cp7)).heap.size from by simp [World.setCell])
      have HG := Lib.hid (show wr.heap.size < w7.heap.size ∧ w.heap.size + 2 < wr.heap.size from ⟨hg7, HC.out.o.lt⟩)
      clear hg7 B8 HSRC e0 e1 e2 e3 e4 e5
      generalize (World.setCell w7 _ _ : World) = W8 at *
      have o1 := Z8.out.at_ 1 _ rfl
      have y0 := X8.out.at_ 0 _ rfl
      have y1 := X8.out.at_ 1 _ rfl
      have y2 := X8.out.at_ 2 _ rfl
      have y3 := X8.out.at_ 3 _ rfl
      have y4 := X8.out.at_ 4 _ rfl
      have y5 := X8.out.at_ 5 _ rfl
      have R9 := Lib.hid (R8.out.keep (al1 (.cells #[.bool r, .int .i64 k, .int .i64 l, .int .i64 bb, .slice ao7 p.length cp7, .int .i64 st] 47)))
      have D9 := Lib.hid (D8.out.below (al1 (.cells #[.bool r, .int .i64 k, .int .i64 l, .int .i64 bb, .slice ao7 p.length cp7, .int .i64 st] 47)))
      have P9 := Lib.hid (P8.out.below (al1 (.cells #[.bool r, .int .i64 k, .int .i64 l, .int .i64 bb, .slice ao7 p.length cp7, .int .i64 st] 47)))
      have B9 := Lib.hid (Bk.new W8 #[.bool r, .int .i64 k, .int .i64 l, .int .i64 bb, .slice ao7 p.length cp7, .int .i64 st] 47)
      have Z9 := Lib.hid (Z8.out.past (.cells #[.bool r, .int .i64 k, .int .i64 l, .int .i64 bb, .slice ao7 p.length cp7, .int .i64 st] 47))
      have O9 := Lib.hid (O8.out.alloc (.cells #[.bool r, .int .i64 k, .int .i64 l, .int .i64 bb, .slice ao7 p.length cp7, .int .i64 st] 47))
      have HQ9 := Lib.hid (show ∀ j, (j < w.heap.size + 3 ∨ j = wr.heap.size) → j < (W8.alloc (.cells #[.bool r, .int .i64 k, .int .i64 l, .int .i64 bb, .slice ao7 p.length cp7, .int .i64 st] 47)).heap.size from fun j hj => by
        have := HG.out; have := HW8.out; simp only [World.size_alloc]; omega)
      have HS9 := Lib.hid (show p ≠ [] → ∀ b o sp, ao7 = some ⟨b, o, sp⟩ → b < (W8.alloc (.cells #[.bool r, .int .i64 k, .int .i64 l, .int .i64 bb, .slice ao7 p.length cp7, .int .i64 st] 47)).heap.size ∧ ¬ (b < w.heap.size + 3 ∨ b = wr.heap.size) ∧ (Value.slice av M.length cv).ownBlock ≠ some b from fun _ b o sp e => ⟨by
        have := (SEP.out b o sp e).1; have := HW8.out; simp only [World.size_alloc]; omega, (SEP.out b o sp e).2⟩)
      have HM9 := Lib.hid (show M.length ≤ 10000 by rw [HL.out]; omega)
      have HN9 := Lib.hid (show M.length + 1 = n + 1 by rw [HL.out])
      have HNQ := Lib.hid (show ¬ ((Value.slice av M.length cv).ownBlock = some (w.heap.size + 2)) from fun e => HC.out.r.own _ e (by show _ < _; omega))
      go_wp2_with (at_builtin; refine wpList_pushnd rfl (.tmp 21) (.tmp 23) rfl (fun k => k < w.heap.size + 3 ∨ k = wr.heap.size) _ M rfl R9.out HQ9.out ⟨⟨r, k, l, bb, p, st⟩, ao7, cp7⟩ D9.out HS9.out W8.heap.size rfl B9.out HM9.out (n + 1) HN9.out ?_; intro a4 c4 w4 hm4 hc4 hR4 hO4 hk4; have R4 := Lib.hid (And.intro hR4 (And.intro hO4 hk4)); have z := Z9.out.only hO4 HNQ.out; have z1 := z.at_ 1 _ rfl; have zf := z.fr 1; clear hR4 hO4 hk4 z; unfold maxLen at hm4)
      go_roundw
      case rel => exact ⟨n + 1, _, _, by omega, by go_num, HC.out.next HX.out O9.out (R4.out.1.sub (fun k _ hk => .inl hk)) R4.out.2.1 R4.out.2.2 P9.out.row (fun k hk => by have h1 : ¬ k < _ := P9.out.av k hk; rw [World.size_alloc] at h1; omega)⟩
      case measure => simp [intOf]; omega
    · obtain rfl : n = N.length := by omega
      have HL := hC.l
      rw [HL] at o1
      have r0 := hC.e.at_ 0 _ rfl
      have r1 := hC.e.at_ 1 _ rfl
      have f0 := hC.e.fr 0
      have f1 := hC.e.fr 1
      have hO : Only (fun k => k = w.heap.size + 1) wr ((wr.setCell ⟨w.heap.size + 1, 0, none⟩ (.int .i64 t)).setCell ⟨w.heap.size + 1, 1, none⟩ (.slice av N.length cv)) :=
        ((Only.refl _ wr).setCell (S := fun k => k = w.heap.size + 1) (p := ⟨w.heap.size + 1, 0, none⟩) (.inl rfl) _).setCell (S := fun k => k = w.heap.size + 1) (p := ⟨w.heap.size + 1, 1, none⟩) (.inl rfl) _
      have FIN := Lib.hid (show CpU w t N (.returned (.agg #[.int .i64 t, .slice av N.length cv])) ((wr.setCell ⟨w.heap.size + 1, 0, none⟩ (.int .i64 t)).setCell ⟨w.heap.size + 1, 1, none⟩ (.slice av N.length cv)) from by
        refine ⟨av, cv, M, rfl, by rw [hC.m, List.take_length], ?_, (by have h := hC.op; rw [HL] at h; exact OwnP.less (B := w.heap.size + 3) (h.only hO (fun k hk => by subst hk; show _ < _; omega)) (by omega)), (hC.b.setCell (by show _ ≤ _ + 1; omega) _).setCell (by show _ ≤ _ + 1; omega) _⟩
        have h := (hC.r.only hO (fun k hk => by subst hk; show _ < _; omega)).sub (Q' := fun k => k < w.heap.size) (fun k _ hk => by show _ < _; omega)
        rw [HL] at h
        exact h)
      clear hO HL hC hmv hcv
      go_wp2_with (fail)
      exact bodyPost_ret (v := .agg #[.int .i64 t, .slice av N.length cv]) (by simp [results, Try.results33, go_sem, r0, r1]) rfl FIN.out
#print axioms copyown_any
end Go.Proofs.Yteebceecohhegaa
