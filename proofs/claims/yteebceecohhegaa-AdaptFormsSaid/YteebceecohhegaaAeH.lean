/- What Bend makes of a leaf whose stat was set anew: plain mathematics for AdaptBends; a map written out. No condition: lemmas. -/
import Derived.Test.YteebceecohhegaaAeG
import Derived.Test.YteebceecohhegaaAeJ
import Derived.Maps.OwnSet
namespace Go.Proofs.Yteebceecohhegaa
open Go.RowKit Go.Maps
set_option linter.all false

theorem set_p {N : List Nd} {i j : Nat} (hi : i < N.length) (st : Int) : (nd (N.set i (lfn (nd N i).p st)) j).p = (nd N j).p := by
  by_cases e : i = j
  · subst e; rw [nd_set hi]; rfl
  · rw [nd_set_ne e]
theorem allP_set {N : List Nd} {i : Nat} (hi : i < N.length) (st : Int) (l : List Nat) : allP (N.set i (lfn (nd N i).p st)) l = allP N l := by
  unfold allP
  congr 1
  exact List.map_congr_left (fun j _ => set_p hi st)
theorem lay_lvs {N : List Nd} {s : Sh} {t : Int} (h : Tr N s t) : ∃ s2, Tr (lay N s 0) s2 0 ∧ allP (lay N s 0) s2.lvs = allP N s.lvs ∧ s2.lvs.length = s.lvs.length := by
  have e := lay_ab 0 h.hg
  have ht := AT.tr (ab_ok h.hg) (by rw [ab_sz, h.all]; exact h.le)
  rw [← e] at ht
  refine ⟨_, ht, ?_, by rw [AT.sh_nl, ab_nl]⟩
  rw [e, AT.all_plain, ab_all]
/-- What Bend makes of it, way by way. -/
structure Bnds (A : List Pr) (n p : Nat) (v d : Int) (Q : List Nd) (s2 : Sh) : Prop where
  t : Tr Q s2 0
  a : allP Q s2.lvs = A
  s : Small Q
  w : (v = 1 ∧ 2 ≤ p ∧ d = 1 ∧ s2.lvs.length = n + 1) ∨ (v = 1 ∧ p < 2 ∧ d = 0 ∧ s2.lvs.length = n) ∨ (v = 2 ∧ 1 < n ∧ d = 2 ∧ s2.lvs.length + 1 = n) ∨ (v = 2 ∧ n = 1 ∧ d = 0 ∧ s2.lvs.length = n) ∨ (v = 0 ∧ d = 0 ∧ s2.lvs.length = n)
theorem bends {N : List Nd} {s : Sh} {t : Int} {i : Nat} (h : Tr N s t) (hi : i ∈ s.lvs) (hT : (allP N s.lvs).length ≤ 2000) (hle : N.length + 2 ≤ 2000) {st : Int} (h1 : -1000000 ≤ st) (h2 : st ≤ 1000000) (hh ll : Int) {d : Int} {Q : List Nd}
    (hB : BndO (N.set i (lfn (nd N i).p st)) t (i : Int) (dc hh ll) d Q) : ∃ s2, Bnds (allP N s.lvs) s.lvs.length (nd N i).p.length (dc hh ll st) d Q s2 := by
  have hil := h.hg.lt i (lvs_pre s i hi)
  obtain ⟨hst, -⟩ := set_own h hi h1 h2
  have hA : LfAt (N.set i (lfn (nd N i).p st)) t (i : Int) s i := ⟨hst, rfl, hi⟩
  have es : (nd (N.set i (lfn (nd N i).p st)) i).s = st := by rw [nd_set hil]; rfl
  have ep : (nd (N.set i (lfn (nd N i).p st)) i).p = (nd N i).p := set_p hil st
  have ea := allP_set hil st s.lvs
  have el : (N.set i (lfn (nd N i).p st)).length = N.length := List.length_set ..
  have stay : ∀ {d : Int}, d = 0 → Q = lay (N.set i (lfn (nd N i).p st)) s 0 → ∃ s2, Tr Q s2 0 ∧ allP Q s2.lvs = allP N s.lvs ∧ Small Q ∧ s2.lvs.length = s.lvs.length := fun _ e => by
    obtain ⟨s2, g1, g2, g3⟩ := lay_lvs hst
    rw [← e] at g1 g2
    exact ⟨s2, g1, by rw [g2, ea], tr_small g1 (by rw [g2, ea]; omega) g1.le, g3⟩
  rcases hB with ⟨s', i', hA', hw⟩ | ⟨hno, _⟩
  · obtain ⟨rfl, rfl⟩ := LfAt.uniq hA' hA
    rw [es] at hw
    rcases hw with ⟨e, hS, rfl⟩ | ⟨e, hJ, rfl⟩ | ⟨rfl, hQ, hw⟩
    · obtain ⟨s3, i3, s2, g1, g2, _, _, g3, g4, g5, _⟩ := SplO.is hS
      obtain ⟨rfl, rfl⟩ := LfAt.uniq g1 hA
      rw [ep] at g2
      exact ⟨s2, g3, by rw [g4, ea], tr_small g3 (by rw [g4, ea]; omega) g3.le, .inl ⟨e, g2, rfl, g5⟩⟩
    · obtain ⟨s3, i3, T, s2, g1, g2, _, _, _, g3, g4, g5, _⟩ := JoiO.is hJ
      obtain ⟨rfl, rfl⟩ := LfAt.uniq g1 hA
      exact ⟨s2, g3, by rw [g4, ea], tr_small g3 (by rw [g4, ea]; omega) g3.le, .inr (.inr (.inl ⟨e, (lvs_one hi).1 g2, rfl, g5⟩))⟩
    · obtain ⟨s2, g1, g2, g3, g4⟩ := stay rfl hQ
      rcases hw with ⟨e, hS⟩ | ⟨e, hJ⟩ | e
      · refine ⟨s2, g1, g2, g3, .inr (.inl ⟨e, ?_, rfl, g4⟩)⟩
        rcases hS with ⟨hh, _⟩ | ⟨_, _, hno⟩
        · cases hh
        · refine Nat.lt_of_not_le (fun hp => hno ⟨_, _, hA, by rw [ep]; exact hp, by rw [el]; exact hle⟩)
      · refine ⟨s2, g1, g2, g3, .inr (.inr (.inr (.inl ⟨e, ?_, rfl, g4⟩)))⟩
        have hp := lvs_pos s'
        rcases hJ with ⟨hh, _⟩ | ⟨_, _, hno⟩
        · cases hh
        · refine Nat.le_antisymm (Nat.le_of_not_lt (fun hl => hno ⟨_, _, hA, (lvs_one hi).2 hl⟩)) hp
      · exact ⟨s2, g1, g2, g3, .inr (.inr (.inr (.inr ⟨e, rfl, g4⟩)))⟩
  · exact absurd ⟨_, _, hA⟩ hno
#print axioms bends

theorem mI_under : Try.prog.underlying 58 = some (.map 3 3) := by kernel_rfl
theorem int_under : Try.prog.underlying 3 = some (.int .i64) := by kernel_rfl
theorem lawI : Keyed Try.prog 3 := int_keyed int_under
abbrev DW := DataW Unit
def i64 (c : Int) : DW := .lit (.int .i64 c)
theorem i64_inj {a b : Int} (h : i64 a = i64 b) : a = b := by unfold i64 at h; injection h with h; injection h
def OwnI (W : World) (b n : Nat) (D : DW) : Prop := W.ownsMap Try.prog 3 (plainElem Try.prog 3) b n D
def D1 : DW := (DataW.map []).put (.int .i64 0) (i64 0)
def D2 : DW := D1.put (.int .i64 1) (i64 1)
def D3 : DW := D2.put (.int .i64 2) (i64 (-1))
theorem D3_at0 : D3.atKey (.int .i64 0) (i64 0) = i64 0 := rfl
theorem D3_at1 : D3.atKey (.int .i64 1) (i64 0) = i64 1 := rfl
theorem D3_at2 : D3.atKey (.int .i64 2) (i64 0) = i64 (-1) := rfl
theorem OwnI.keep {W W' : World} {b n : Nat} {D : DW} (h : OwnI W b n D) (hb : Below W.heap.size W W') : OwnI W' b n D := by
  have hlt : b < W.heap.size := World.ownsMap.lt h
  obtain ⟨es, clock, hbb, F, hs, hD⟩ := h
  exact ⟨es, clock, (hb.block b hlt).trans hbb, F, hs, hD⟩
/-- The map's word of a key. -/
theorem D3_run {W : World} {b n : Nat} (h : OwnI W b n D3) (k c : Int) (hk : (Lit.int .i64 k).wf = true) (hc : D3.atKey (.int .i64 k) (i64 0) = i64 c) : (Instr.lookup 58 (.map (some b)) (.int .i64 k) false).run Try.prog W = .ok (.int .i64 c) W := by
  obtain ⟨c', hrun, hat, _⟩ := World.ownsMap.lookup_int h lawI mI_under int_under (zeroI W) (keyOf_int_mk int_under hk)
  have : i64 c' = i64 c := hat.symm.trans hc
  rw [i64_inj this] at hrun
  exact hrun
/-- The map that is written out. -/
theorem map3 (X : World) : ∃ W1 W2 W3, (Instr.mapUpdate 58 (.map (some X.heap.size)) (.int .i64 0) (.int .i64 0)).run Try.prog (X.alloc (.map #[] 0)) = .ok () W1 ∧ (Instr.mapUpdate 58 (.map (some X.heap.size)) (.int .i64 1) (.int .i64 1)).run Try.prog W1 = .ok () W2 ∧
    (Instr.mapUpdate 58 (.map (some X.heap.size)) (.int .i64 2) (.int .i64 (-1))).run Try.prog W2 = .ok () W3 ∧ Below X.heap.size X W3 ∧
    (Instr.lookup 58 (.map (some X.heap.size)) (.int .i64 0) false).run Try.prog W3 = .ok (.int .i64 0) W3 ∧ (Instr.lookup 58 (.map (some X.heap.size)) (.int .i64 1) false).run Try.prog W3 = .ok (.int .i64 1) W3 ∧ (Instr.lookup 58 (.map (some X.heap.size)) (.int .i64 2) false).run Try.prog W3 = .ok (.int .i64 (-1)) W3 := by
  have O0 : OwnI (X.alloc (.map #[] 0)) X.heap.size 0 (.map []) := World.ownsMap_made X _ _ _
  have one : ∀ {W W' : World}, Below X.heap.size X W → W.grownBy W' (some X.heap.size) → Below X.heap.size X W' := fun hb hg => hb.trans (((Only.refl _ _).grown (S := fun j => j = X.heap.size) hg (fun k hk _ => by cases hk; rfl)).below (B := X.heap.size) (fun j hj => by have : j = X.heap.size := hj; omega) hb.size)
  obtain ⟨W1, r1, o1, g1⟩ := World.ownsMap.update O0 lawI mI_under (by decide) (keyOf_int_mk int_under (show (Lit.int .i64 0).wf = true by decide)) (plainElem_int int_under (show (Lit.int .i64 0).wf = true by decide))
  obtain ⟨W2, r2, o2, g2⟩ := World.ownsMap.update o1 lawI mI_under (by decide) (keyOf_int_mk int_under (show (Lit.int .i64 1).wf = true by decide)) (plainElem_int int_under (show (Lit.int .i64 1).wf = true by decide))
  obtain ⟨W3, r3, o3, g3⟩ := World.ownsMap.update o2 lawI mI_under (by decide) (keyOf_int_mk int_under (show (Lit.int .i64 2).wf = true by decide)) (plainElem_int int_under (show (Lit.int .i64 (-1)).wf = true by decide))
  have O3 : OwnI W3 X.heap.size 3 D3 := o3
  exact ⟨W1, W2, W3, r1, r2, r3, one (one (one (al1 _) g1) g2) g3, D3_run O3 0 0 (by decide) D3_at0, D3_run O3 1 1 (by decide) D3_at1, D3_run O3 2 (-1) (by decide) D3_at2⟩
#print axioms map3
end Go.Proofs.Yteebceecohhegaa
