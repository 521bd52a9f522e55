/- A leaf split, then joined again: plain mathematics for AdaptBack. No condition: lemmas. -/
import Derived.Test.YteebceecohhegaaAeK
namespace Go.Proofs.Yteebceecohhegaa
open Go.RowKit
set_option linter.all false

theorem lf_srt {N : List Nd} {s : Sh} {t : Int} (h : Tr N s t) {i : Nat} (hi : i ∈ s.lvs) : Srt (nd N i).p := by
  obtain ⟨n, lo, hh, hn, hl, _⟩ := hangs_leaf h.hg i (lvs_pre s i hi)
  have hr := (lf_plain h.hg i hi).1
  rw [nd_of hn] at hr ⊢
  exact (hl hr).2.2.2.2.2.1
/-- A leaf made anew with its own pairs. -/
theorem set_own {N : List Nd} {s : Sh} {t : Int} (h : Tr N s t) {i : Nat} (hi : i ∈ s.lvs) {st : Int} (h1 : -1000000 ≤ st) (h2 : st ≤ 1000000) : Tr (N.set i (lfn (nd N i).p st)) s t ∧ SetO N t i (nd N i).p st t (N.set i (lfn (nd N i).p st)) true := by
  have hil := h.hg.lt i (lvs_pre s i hi)
  have hs := (hangs_set (l := (nd N i).p) (st := st) hil h.hg h.nd hi).2 ⟨h1, h2, lf_srt h hi, fun q hq => inLf_own h.hg i hi q hq⟩
  have ht : Tr (N.set i (lfn (nd N i).p st)) s t := ⟨by rw [List.length_set]; exact h.le, hs, h.nd, by rw [List.length_set]; exact h.all⟩
  exact ⟨ht, .inl ⟨rfl, rfl, ⟨s, h⟩, i, _, rfl, nd_get hil, (lf_plain h.hg i hi).1, rfl, s, ht⟩⟩
theorem small_setl {N : List Nd} (h : Small N) {i : Nat} {p : List Pr} (hp : p.length ≤ 2100) (st : Int) : Small (N.set i (lfn p st)) := ⟨by rw [List.length_set]; exact h.1, fun n hn => by
  rcases List.mem_or_eq_of_mem_set hn with hn | rfl
  · exact h.2 n hn
  · exact hp⟩
theorem plain_lay {T : AT} (h : T.ok none none) (hs : T.sz ≤ 2000) : Tr (T.lay 0) (T.sh 0) 0 ∧ lay (T.lay 0) (T.sh 0) 0 = T.lay 0 := by
  have ht := AT.tr h hs
  exact ⟨ht, by rw [lay_ab 0 ht.hg, AT.ab_plain]⟩
/-- All that AdaptBack's first half asks of a split. -/
structure Bck (N : List Nd) (t : Int) (i : Nat) (q : Pr) (Q : List Nd) (s1 : Sh) (f : Nat) (V P : List Nd) : Prop where
  q0 : (nd N i).p[0]? = some q
  sp : SplO N t (i : Int) true Q
  qs : Small Q
  qt : Tr Q s1 0
  fi : (dn Q q.1 s1).i = f
  jo : JoiO Q 0 (f : Int) true V
  vs : Small V
  qa : ∀ s', Tr Q s' 0 → (allP Q s'.lvs).length ≤ 2100
  so : SetO N t (i : Int) (nd N i).p 0 t (N.set i (lfn (nd N i).p 0)) true
  ss : Small (N.set i (lfn (nd N i).p 0))
  pv : PlO V 0 true P
  pw : PlO (N.set i (lfn (nd N i).p 0)) t true P
theorem back {N : List Nd} {s : Sh} {t : Int} {i : Nat} (h : Tr N s t) (hsm : Small N) (hT : (allP N s.lvs).length ≤ 2100) (hi : i ∈ s.lvs) (h2 : 2 ≤ (nd N i).p.length) (hle : N.length + 2 ≤ 2000) : ∃ q s1 f V P, Bck N t i q ((splA N i s).lay 0) s1 f V P := by
  have hil := h.hg.lt i (lvs_pre s i hi)
  have hsrt := lf_srt h hi
  obtain ⟨q, hq⟩ : ∃ q, (nd N i).p[0]? = some q := ⟨_, List.getElem?_eq_getElem (by omega)⟩
  obtain ⟨m, hm⟩ : ∃ m, (nd N i).p[(nd N i).p.length / 2]? = some m := ⟨_, List.getElem?_eq_getElem (by omega)⟩
  have hkey : q.1 < ((nd N i).p.getD ((nd N i).p.length / 2) (0, 0)).1 := by
    rw [show (nd N i).p.getD ((nd N i).p.length / 2) (0, 0) = m by simp [List.getD, hm]]
    exact hsrt.at 0 _ q m (by omega) hq hm
  have hdn : (dn N q.1 s).i = i := ((inLf_dn h.hg (inS_any q.1)).1 (inLf_own h.hg i hi q (List.mem_of_getElem? hq))).symm
  have hsp : SplO N t (i : Int) true ((splA N i s).lay 0) := .inl ⟨rfl, s, i, ⟨h, rfl, hi⟩, h2, hle, rfl⟩
  obtain ⟨s0, i0, s1, g1, _, _, g2, g3, g4, g5, g6⟩ := SplO.is hsp
  obtain rfl := g1.1.uniq h
  have e0 : i = i0 := by have := g1.2.1; omega
  subst e0
  obtain ⟨f, f1, f2, f3, f4⟩ := split_join hil h2 hkey [] [] h.nd hi hdn
  simp only [List.nil_append, List.append_nil, List.length_nil] at f1 f2 f3 f4
  rw [← g2] at f1 f2 f3 f4
  have hjo : JoiO ((splA N i s0).lay 0) 0 (f : Int) true ((ab (N.set i (lfn (nd N i).p 0)) s0).lay 0) := .inl ⟨rfl, s1, f, _, ⟨g3, rfl, f2⟩, f3, f4, rfl⟩
  obtain ⟨s2, i2, T, s3, e1, e2, e3, e4, e5, e6, e7, e8, e9⟩ := JoiO.is hjo
  obtain ⟨hst, hso⟩ := set_own h hi (st := 0) (by decide) (by decide)
  have hs2 := e1.1.uniq g3
  subst hs2
  have hplw : lay (N.set i (lfn (nd N i).p 0)) s0 0 = (ab (N.set i (lfn (nd N i).p 0)) s0).lay 0 := lay_ab 0 hst.hg
  have hok := ab_ok hst.hg
  have hpl := plain_lay hok (by rw [ab_sz, hst.all]; exact hst.le)
  exact ⟨q, s2, f, _, _, ⟨hq, hsp, tr_small g3 (by rw [g4]; exact hT) g3.le, g3, f1, hjo, tr_small e6 (by rw [e7, g4]; exact hT) e6.le, fun s' h' => by
    obtain rfl := h'.uniq g3
    rw [g4]; exact hT, hso, small_setl hsm (hsm.at (nd_get hil)) 0, .inl ⟨_, hpl.1, rfl, hpl.2.symm⟩, .inl ⟨s0, hst, rfl, hplw.symm⟩⟩⟩
#print axioms back
end Go.Proofs.Yteebceecohhegaa
