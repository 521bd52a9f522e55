/- What a call by itself makes of a tree: its pairs are those of one map, and it may be. Plain mathematics over Bend's answer. No condition: definitions and lemmas. One call by itself, and calls one after the other: what they make of a tree; under Eager leaves part, where uncontended updates take away they come together. Plain mathematics. No condition: definitions and lemmas. What a call leaves of a plain tree is plain; the leaves of a range; calls in a row. Plain mathematics. No condition: definitions and lemmas. -/
import Derived.Test.YtijepfabkalcoaaAeG
import Derived.Test.YtijepfabkalcoaaSlM
import Derived.Test.YtijepfabkalcoaaLfO
import Derived.Test.YtijepfabkalcoaaAdR
import Derived.Test.YtijepfabkalcoaaMdN
namespace Go.Proofs.Ytijepfabkalcoaa
open Go.RowKit
set_option linter.all false

theorem lay_tr {N : List Nd} {s : Sh} {t : Int} (h : Tr N s t) : Tr (lay N s 0) ((ab N s).sh 0) 0 ∧ allP (lay N s 0) ((ab N s).sh 0).lvs = allP N s.lvs ∧ (lay N s 0).length = N.length ∧
    ((ab N s).sh 0).lvs.map (pst (lay N s 0)) = s.lvs.map (pst N) := by
  have e := lay_ab 0 h.hg
  have ht := AT.tr (ab_ok h.hg) (by rw [ab_sz, h.all]; exact h.le)
  rw [← e] at ht
  exact ⟨ht, by rw [e, AT.all_plain, ab_all], by rw [e, AT.lay_len, ab_sz, h.all], lst_lay h⟩
/-- What Bend leaves. -/
theorem bnd_is {N : List Nd} {s : Sh} {t : Int} {i : Nat} {D : Int → Int} {d : Int} {Q : List Nd} (hA : LfAt N t (i : Int) s i) (hB : BndO N t (i : Int) D d Q) :
    ∃ s', Tr Q s' 0 ∧ allP Q s'.lvs = allP N s.lvs ∧ Q.length ≤ N.length + 2 ∧
      ((s'.lvs.map (pst Q) = s.lvs.map (pst N) ∧ Q.length = N.length ∧ (D (nd N i).s = 0 ∨ (D (nd N i).s = 1 ∧ ((nd N i).p.length < 2 ∨ 2000 < N.length + 2)) ∨ (D (nd N i).s = 2 ∧ s.lvs.length = 1))) ∨
       (s'.lvs.map (pst Q) = (splA N i s).lst ∧ D (nd N i).s = 1 ∧ 2 ≤ (nd N i).p.length) ∨
       (∃ T, joinA N i s = some T ∧ s'.lvs.map (pst Q) = T.lst ∧ D (nd N i).s = 2 ∧ s'.lvs.length + 1 = s.lvs.length)) := by
  rcases hB with ⟨s', i', hA', hw⟩ | ⟨hno, _⟩
  · obtain ⟨rfl, rfl⟩ := LfAt.uniq hA' hA
    rcases hw with ⟨e, hS, rfl⟩ | ⟨e, hJ, rfl⟩ | ⟨rfl, rfl, hw⟩
    · obtain ⟨s3, i3, s2, g1, g2, g6, g7, g3, g4, g5, g8⟩ := SplO.is hS
      obtain ⟨rfl, rfl⟩ := LfAt.uniq g1 hA
      exact ⟨s2, g3, g4, by omega, .inr (.inl ⟨by rw [g7, g6, lst_plain], e, g2⟩)⟩
    · obtain ⟨s3, i3, T, s2, g1, g2, g6, g7, g8, g3, g4, g5, g9⟩ := JoiO.is hJ
      obtain ⟨rfl, rfl⟩ := LfAt.uniq g1 hA
      exact ⟨s2, g3, g4, by omega, .inr (.inr ⟨T, g6, by rw [g8, g7, lst_plain], e, g5⟩)⟩
    · obtain ⟨g1, g2, g3, g4⟩ := lay_tr hA.1
      refine ⟨_, g1, g2, by omega, .inl ⟨g4, g3, ?_⟩⟩
      rcases hw with ⟨e, hS⟩ | ⟨e, hJ⟩ | e
      · refine .inr (.inl ⟨e, ?_⟩)
        rcases hS with ⟨hh, _⟩ | ⟨_, _, hno⟩
        · cases hh
        · rcases Nat.lt_or_ge (nd N i').p.length 2 with h | h
          · exact .inl h
          · refine .inr (Nat.lt_of_not_le (fun hle => hno ⟨_, _, hA, h, hle⟩))
      · refine .inr (.inr ⟨e, ?_⟩)
        have hp := lvs_pos s'
        rcases hJ with ⟨hh, _⟩ | ⟨_, _, hno⟩
        · cases hh
        · exact Nat.le_antisymm (Nat.le_of_not_lt (fun hl => hno ⟨_, _, hA, (lvs_one hA.2.2).2 hl⟩)) hp
      · exact .inl e
  · exact absurd ⟨_, _, hA⟩ hno

theorem tchL_mem {f t : Nat} : ∀ {l : List Nat} {b : Bool}, ∀ i ∈ tchL f t b l, i ∈ l := by
  intro l
  induction l with
  | nil => intro b i h; simp [tchL] at h
  | cons j r ih =>
    intro b i h
    rw [tchL, List.mem_append] at h
    rcases h with h | h
    · split at h
      · simp at h; rw [h]; exact List.mem_cons_self
      · simp at h
    · split at h
      · simp at h
      · exact List.mem_cons_of_mem _ (ih i h)
/-- The tree that a call leaves. -/
def DoT (N : List Nd) (s : Sh) (h l cc u m c k hi v : Int) (Q : List Nd) : Prop :=
  (c ≤ 3 ∧ ∃ d, BndO (N.set (dn N k s).i ⟨false, 0, 0, 0, doP (nd N (dn N k s).i).p c k v, nx cc u m (nd N (dn N k s).i).s 2⟩) 0 ((dn N k s).i : Int) (dc h l) d Q) ∨
  ((c = 5 ∨ c = 6) ∧ k ≤ hi ∧ (dn N k s).i ≠ (dn N hi s).i ∧ ∃ d, BndO (stN (fun x => nx cc u m x 3) (tch N s k hi) N) 0 ((dn N k s).i : Int) (dc h l) d Q) ∨
  (¬ c ≤ 3 ∧ ¬ ((c = 5 ∨ c = 6) ∧ k ≤ hi ∧ (dn N k s).i ≠ (dn N hi s).i) ∧ Q = N)
theorem doT_ex (N : List Nd) (s : Sh) (h l cc u m c k hi v : Int) : ∃ Q, DoT N s h l cc u m c k hi v Q := by
  by_cases h1 : c ≤ 3
  · obtain ⟨d, Q, hB⟩ := bndO_ex (N.set (dn N k s).i ⟨false, 0, 0, 0, doP (nd N (dn N k s).i).p c k v, nx cc u m (nd N (dn N k s).i).s 2⟩) 0 ((dn N k s).i : Int) h l
    exact ⟨Q, .inl ⟨h1, d, hB⟩⟩
  by_cases h2 : (c = 5 ∨ c = 6) ∧ k ≤ hi ∧ (dn N k s).i ≠ (dn N hi s).i
  · obtain ⟨d, Q, hB⟩ := bndO_ex (stN (fun x => nx cc u m x 3) (tch N s k hi) N) 0 ((dn N k s).i : Int) h l
    exact ⟨Q, .inr (.inl ⟨h2.1, h2.2.1, h2.2.2, d, hB⟩)⟩
  · exact ⟨N, .inr (.inr ⟨h1, h2, rfl⟩)⟩
theorem nx_bd (c u m s w : Int) : -1000000 ≤ nx c u m s w ∧ nx c u m s w ≤ 1000000 := ⟨hm_lo _, hm_hi _⟩
/-- The tree may be, its pairs are those of one map. -/
theorem doT_is {N : List Nd} {s : Sh} (hT : Tr N s 0) {h l cc u m c k hi v : Int} (ho : okOp c) {Q : List Nd} (hD : DoT N s h l cc u m c k hi v Q) :
    ∃ s', Tr Q s' 0 ∧ allP Q s'.lvs = doP (allP N s.lvs) c k v ∧ Q.length ≤ N.length + 2 := by
  have hs := (allP_srt hT.hg).1
  rcases hD with ⟨h1, d, hB⟩ | ⟨h1, h2, h3, d, hB⟩ | ⟨h1, h2, rfl⟩
  · obtain ⟨g1, g2, _⟩ := tr_update hT (k := k) (v := v) (st := nx cc u m (nd N (dn N k s).i).s 2) ho (nx_bd _ _ _ _ _).1 (nx_bd _ _ _ _ _).2
    obtain ⟨s', a, b, e, _⟩ := bnd_is ⟨g1, rfl, dn_lvs N k s⟩ hB
    exact ⟨s', a, by rw [b, g2], by rw [List.length_set] at e; exact e⟩
  · obtain ⟨g1, g2, g3⟩ := tr_stats (f := fun x => nx cc u m x 3) (fun x => nx_bd _ _ _ _ _) hT (l := tch N s k hi) (fun i hi' => tchL_mem i hi')
    obtain ⟨s', a, b, e, _⟩ := bnd_is ⟨g1, rfl, dn_lvs N k s⟩ hB
    exact ⟨s', a, by rw [b, g2, doP_read hs ho k v (by omega)], by rw [g3] at e; exact e⟩
  · exact ⟨s, hT, by rw [doP_read hs ho k v (by omega)], by omega⟩

/-! ### All other leaves stay -/
theorem filt_sub {α : Type} (f : Nat → α) (p q : Nat → Bool) (h : ∀ x, p x = true → q x = true) : ∀ l : List Nat, ((l.filter p).map f).Sublist ((l.filter q).map f) := by
  intro l
  refine List.Sublist.map f ?_
  have e : l.filter p = (l.filter q).filter p := by
    rw [List.filter_filter]
    refine List.filter_congr (fun x _ => ?_)
    cases hp : p x
    · rfl
    · rw [h x hp]; rfl
  rw [e]
  exact List.filter_sublist
theorem tch_first {N : List Nd} {s : Sh} (hn : s.lvs.Nodup) {k hi : Int} (hk : k ≤ hi) : (dn N k s).i ∈ tch N s k hi := by
  obtain ⟨a, b, h1, h2, h3⟩ := dn_mono (N := N) hk s
  rw [tch, tchL_is hn h1 h2 h3]
  refine List.mem_iff_getElem?.2 ⟨0, ?_⟩
  rw [List.getElem?_drop, Nat.add_zero, List.getElem?_take_of_lt (by omega)]
  exact h2
/-- What Bend leaves of all other leaves, where none is joined. -/
theorem bnd_local {N : List Nd} {s : Sh} {t : Int} {i : Nat} {D : Int → Int} {d : Int} {Q : List Nd} (hA : LfAt N t (i : Int) s i) (hB : BndO N t (i : Int) D d Q) {s' : Sh} (hs' : Tr Q s' 0) (hl : s.lvs.length ≤ s'.lvs.length) :
    ((s.lvs.filter (fun j => decide (j ≠ i))).map (pst N)).Sublist (s'.lvs.map (pst Q)) := by
  obtain ⟨s2, a, _, _, hw⟩ := bnd_is hA hB
  obtain rfl := a.uniq hs'
  rcases hw with ⟨e, _⟩ | ⟨e, _⟩ | ⟨T, _, _, _, e⟩
  · rw [e]
    exact List.Sublist.map _ List.filter_sublist
  · rw [e]
    exact splA_sub N i s
  · omega
theorem doT_local {N : List Nd} {s : Sh} (hT : Tr N s 0) {h l cc u m c k hi v : Int} (ho : okOp c) {Q : List Nd} (hD : DoT N s h l cc u m c k hi v Q) {s' : Sh} (hs' : Tr Q s' 0) (hl : s.lvs.length ≤ s'.lvs.length) :
    ((s.lvs.filter (fun j => decide (j ∉ tchd N s c k hi))).map (pst N)).Sublist (s'.lvs.map (pst Q)) := by
  have hnl := lvs_nodup hT.nd
  rcases hD with ⟨h1, d, hB⟩ | ⟨h1, h2, h3, d, hB⟩ | ⟨h1, h2, rfl⟩
  · obtain ⟨g1, _⟩ := tr_update hT (k := k) (v := v) (st := nx cc u m (nd N (dn N k s).i).s 2) ho (nx_bd _ _ _ _ _).1 (nx_bd _ _ _ _ _).2
    have hsub := bnd_local ⟨g1, rfl, dn_lvs N k s⟩ hB hs' hl
    have e : tchd N s c k hi = [(dn N k s).i] := by rw [tchd, if_pos (by omega)]
    rw [e]
    have e2 : s.lvs.filter (fun j => decide (j ∉ [(dn N k s).i])) = s.lvs.filter (fun j => decide (j ≠ (dn N k s).i)) := List.filter_congr (fun x _ => by simp)
    rw [e2]
    have e3 : (s.lvs.filter (fun j => decide (j ≠ (dn N k s).i))).map (pst N) = (s.lvs.filter (fun j => decide (j ≠ (dn N k s).i))).map (pst (N.set (dn N k s).i ⟨false, 0, 0, 0, doP (nd N (dn N k s).i).p c k v, nx cc u m (nd N (dn N k s).i).s 2⟩)) :=
      List.map_congr_left (fun j hj => by
        have hne : j ≠ (dn N k s).i := by simpa using (List.mem_filter.1 hj).2
        rw [pst, pst, nd_set_ne (fun e => hne e.symm)])
    rw [e3]
    exact hsub
  · obtain ⟨g1, _, g3⟩ := tr_stats (f := fun x => nx cc u m x 3) (fun x => nx_bd _ _ _ _ _) hT (l := tch N s k hi) (fun i hi' => tchL_mem i hi')
    have hsub := bnd_local ⟨g1, rfl, dn_lvs N k s⟩ hB hs' hl
    have e : tchd N s c k hi = tch N s k hi := by rw [tchd, if_neg (by omega), if_pos ⟨by omega, h2⟩]
    rw [e]
    have hnt : (tch N s k hi).Nodup := by
      obtain ⟨a, b, k1, k2, k3⟩ := dn_mono (N := N) h2 s
      rw [tch, tchL_is hnl k1 k2 k3]
      exact (hnl.sublist (List.take_sublist _ _)).sublist (List.drop_sublist _ _)
    have hlt : ∀ i ∈ tch N s k hi, i < N.length := fun i hi' => hT.hg.lt i (lvs_pre _ _ (tchL_mem i hi'))
    have e3 : (s.lvs.filter (fun j => decide (j ∉ tch N s k hi))).map (pst N) = (s.lvs.filter (fun j => decide (j ∉ tch N s k hi))).map (pst (stN (fun x => nx cc u m x 3) (tch N s k hi) N)) :=
      List.map_congr_left (fun j hj => by
        have hne : j ∉ tch N s k hi := by simpa using (List.mem_filter.1 hj).2
        rw [pst, pst, stN_nd hnt hlt, if_neg hne])
    rw [e3]
    refine (filt_sub _ _ _ (fun x hx => ?_) s.lvs).trans hsub
    have hx' : x ∉ tch N s k hi := by simpa using hx
    simp only [decide_eq_true_eq, ne_eq]
    intro e
    exact hx' (e ▸ tch_first hnl h2)
  · obtain rfl := hs'.uniq hT
    exact List.Sublist.map _ List.filter_sublist

/-! ### Off, Eager, and what joins -/
end Go.Proofs.Ytijepfabkalcoaa

namespace Go.Proofs.Ytijepfabkalcoaa
open Go.RowKit
set_option linter.all false

/-- The tree that a call leaves of a tree that may be. -/
def DoS (N : List Nd) (s : Sh) (h l cc u m : Int) (o : OpD) (Q : List Nd) : Prop :=
  (okOp o.c ∧ DoT (lay N s 0) ((ab N s).sh 0) h l cc u m o.c o.k o.h o.v Q) ∨ (¬ okOp o.c ∧ Q = lay N s 0)
theorem doS_ex (N : List Nd) (s : Sh) (h l cc u m : Int) (o : OpD) : ∃ Q, DoS N s h l cc u m o Q := by
  by_cases ho : okOp o.c
  · obtain ⟨Q, hQ⟩ := doT_ex (lay N s 0) ((ab N s).sh 0) h l cc u m o.c o.k o.h o.v
    exact ⟨Q, .inl ⟨ho, hQ⟩⟩
  · exact ⟨_, .inr ⟨ho, rfl⟩⟩
theorem doS_is {N : List Nd} {s : Sh} {t : Int} (hT : Tr N s t) {h l cc u m : Int} {o : OpD} {Q : List Nd} (hD : DoS N s h l cc u m o Q) :
    ∃ s', Tr Q s' 0 ∧ allP Q s'.lvs = doP (allP N s.lvs) o.c o.k o.v ∧ Q.length ≤ N.length + 2 := by
  obtain ⟨g1, g2, g3, _⟩ := lay_tr hT
  rcases hD with ⟨ho, hD⟩ | ⟨ho, rfl⟩
  · obtain ⟨s', a, b, e⟩ := doT_is g1 ho hD
    exact ⟨s', a, by rw [b, g2], by omega⟩
  · exact ⟨_, g1, by rw [g2, doP_bad (fun x => ho x.2)], by omega⟩
theorem doP_len0 {L : List Pr} (h : Srt L) (c k v : Int) : (doP L c k v).length ≤ L.length + 1 := by
  by_cases ho : okOp c
  · exact doP_len h ho k v
  · rw [doP_bad (fun x => ho x.2)]; omega
theorem lay_lay {N : List Nd} {s : Sh} {t : Int} (h : Tr N s t) : lay (lay N s 0) ((ab N s).sh 0) 0 = lay N s 0 ∧ ab (lay N s 0) ((ab N s).sh 0) = ab N s := by
  have e := lay_ab 0 h.hg
  have ea : ab (lay N s 0) ((ab N s).sh 0) = ab N s := by rw [e, AT.ab_plain]
  refine ⟨?_, ea⟩
  rw [lay_ab 0 (lay_tr h).1.hg, ea, e]
end Go.Proofs.Ytijepfabkalcoaa

namespace Go.Proofs.Ytijepfabkalcoaa
open Go.RowKit
set_option linter.all false

theorem plain_lay {T : AT} {s' : Sh} (h : Tr (T.lay 0) s' 0) (h2 : Tr (T.lay 0) (T.sh 0) 0) : lay (T.lay 0) s' 0 = T.lay 0 := by
  obtain rfl := h.uniq h2
  rw [lay_ab 0 h.hg, AT.ab_plain]
theorem bnd_plain {N : List Nd} {s : Sh} {t : Int} {i : Nat} {D : Int → Int} {d : Int} {Q : List Nd} (hA : LfAt N t (i : Int) s i) (hB : BndO N t (i : Int) D d Q) {s' : Sh} (hs' : Tr Q s' 0) : lay Q s' 0 = Q := by
  rcases hB with ⟨s0, i', hA', hw⟩ | ⟨hno, _⟩
  · rcases hw with ⟨e, hS, rfl⟩ | ⟨e, hJ, rfl⟩ | ⟨rfl, rfl, hw⟩
    · obtain ⟨s3, i3, s2, g1, g2, g6, g7, g3, g4, g5, g8⟩ := SplO.is hS
      subst g6; subst g7
      exact plain_lay hs' g3
    · obtain ⟨s3, i3, T, s2, g1, g2, g6, g7, g8, g3, g4, g5, g9⟩ := JoiO.is hJ
      subst g7; subst g8
      exact plain_lay hs' g3
    · have e := lay_ab 0 hA'.1.hg
      have g := (lay_tr hA'.1).1
      rw [e] at hs' g ⊢
      exact plain_lay hs' g
  · exact absurd ⟨_, _, hA⟩ hno
theorem doT_plain {N : List Nd} {s : Sh} (hT : Tr N s 0) (hp : lay N s 0 = N) {h l cc u m c k hi v : Int} (ho : okOp c) {Q : List Nd} (hD : DoT N s h l cc u m c k hi v Q) {s' : Sh} (hs' : Tr Q s' 0) : lay Q s' 0 = Q := by
  rcases hD with ⟨h1, d, hB⟩ | ⟨h1, h2, h3, d, hB⟩ | ⟨h1, h2, rfl⟩
  · obtain ⟨g1, g2, _⟩ := tr_update hT (k := k) (v := v) (st := nx cc u m (nd N (dn N k s).i).s 2) ho (nx_bd _ _ _ _ _).1 (nx_bd _ _ _ _ _).2
    exact bnd_plain ⟨g1, rfl, dn_lvs N k s⟩ hB hs'
  · obtain ⟨g1, g2, g3⟩ := tr_stats (f := fun x => nx cc u m x 3) (fun x => nx_bd _ _ _ _ _) hT (l := tch N s k hi) (fun i hi' => tchL_mem i hi')
    exact bnd_plain ⟨g1, rfl, dn_lvs N k s⟩ hB hs'
  · obtain rfl := hs'.uniq hT
    exact hp
theorem lay_plain {N : List Nd} {s : Sh} {t : Int} (hT : Tr N s t) : lay (lay N s 0) ((ab N s).sh 0) 0 = lay N s 0 := (lay_lay hT).1
theorem doS_plain {N : List Nd} {s : Sh} {t : Int} (hT : Tr N s t) {h l cc u m : Int} {o : OpD} {Q : List Nd} (hD : DoS N s h l cc u m o Q) {s' : Sh} (hs' : Tr Q s' 0) : lay Q s' 0 = Q := by
  obtain ⟨g1, g2, g3, _⟩ := lay_tr hT
  rcases hD with ⟨ho, hD⟩ | ⟨ho, rfl⟩
  · exact doT_plain g1 (lay_plain hT) ho hD hs'
  · obtain rfl := hs'.uniq g1
    exact lay_plain hT
/-- Of a plain tree. -/
theorem doS_at {N : List Nd} {s : Sh} (hT : Tr N s 0) (hp : lay N s 0 = N) {h l cc u m : Int} {o : OpD} {Q : List Nd} (hD : DoS N s h l cc u m o Q) :
    (okOp o.c ∧ DoT N s h l cc u m o.c o.k o.h o.v Q) ∨ (¬ okOp o.c ∧ Q = N) := by
  have e : (ab N s).sh 0 = s := by
    have g := (lay_tr hT).1
    rw [hp] at g
    exact g.uniq hT
  unfold DoS at hD
  rw [hp, e] at hD
  exact hD
/-- Laid in its order first it is the same. -/
theorem doS_lay {N : List Nd} {s : Sh} {t : Int} (hT : Tr N s t) {h l cc u m : Int} {o : OpD} {Q : List Nd} (hD : DoS N s h l cc u m o Q) : DoS (lay N s 0) ((ab N s).sh 0) h l cc u m o Q := by
  obtain ⟨e1, e2⟩ := lay_lay hT
  unfold DoS at hD ⊢
  rw [e1, e2]
  exact hD
/-! ### How many leaves a range touches -/
theorem tch_two {N : List Nd} {s : Sh} (hn : s.lvs.Nodup) {k hi : Int} (hk : k ≤ hi) : ((dn N k s).i = (dn N hi s).i → tch N s k hi = [(dn N k s).i]) ∧ ((dn N k s).i ≠ (dn N hi s).i → 2 ≤ (tch N s k hi).length) ∧ (tch N s k hi)[0]? = some (dn N k s).i := by
  obtain ⟨a, b, h1, h2, h3⟩ := dn_mono (N := N) hk s
  have e : tch N s k hi = (s.lvs.take (b + 1)).drop a := tchL_is hn h1 h2 h3
  have hl := (List.getElem?_eq_some_iff.1 h3).1
  have h0 : ((s.lvs.take (b + 1)).drop a)[0]? = some (dn N k s).i := by rw [List.getElem?_drop, Nat.add_zero, List.getElem?_take_of_lt (by omega)]; exact h2
  have hlen : ((s.lvs.take (b + 1)).drop a).length = b + 1 - a := by rw [List.length_drop, List.length_take]; omega
  refine ⟨fun he => ?_, fun he => ?_, by rw [e]; exact h0⟩
  · have hab : a = b := nodup_at hn (he ▸ h2 : s.lvs[a]? = some (dn N hi s).i) h3
    rw [e]
    match hx : (s.lvs.take (b + 1)).drop a with
    | [] => rw [hx] at hlen; simp at hlen; omega
    | [x] => rw [hx] at h0; simp at h0; rw [h0]
    | x :: y :: z => rw [hx] at hlen; simp at hlen; omega
  · have hab : a ≠ b := fun hab => he (by subst hab; rw [h2] at h3; exact Option.some.inj h3)
    rw [e, hlen]; omega
theorem stN_snoc {f : Int → Int} : ∀ {l : List Nat} {N : List Nd} {i : Nat}, stN f (l ++ [i]) N = (stN f l N).set i ⟨false, 0, 0, 0, (nd (stN f l N) i).p, f (nd (stN f l N) i).s⟩
  | [], N, i => rfl
  | j :: l, N, i => stN_snoc (l := l) (N := N.set j ⟨false, 0, 0, 0, (nd N j).p, f (nd N j).s⟩)
/-! ### Calls in a row -/
/-- The trees between the calls. -/
def Chn (h l cc u m : Int) (zs : List OpD) (f : Nat → List Nd) : Prop := ∀ i o, zs[i]? = some o → ∃ s, Tr (f i) s 0 ∧ DoS (f i) s h l cc u m o (f (i + 1))
theorem runP_snoc (L : List Pr) (y : List OpD) (o : OpD) : runP L (y ++ [o]) = doP (runP L y) o.c o.k o.v := runP_app L y [o]
theorem take_snoc {α : Type} {l : List α} {i : Nat} {x : α} (h : l[i]? = some x) : l.take (i + 1) = l.take i ++ [x] := by
  have hl := (List.getElem?_eq_some_iff.1 h).1
  rw [List.take_add_one, h]; rfl
/-- Of each of them: it may be, is plain; its pairs are those of one map. -/
theorem chn_is {h l cc u m : Int} {zs : List OpD} {f : Nat → List Nd} (hc : Chn h l cc u m zs f) {s : Sh} (hT : Tr (f 0) s 0) (hp : lay (f 0) s 0 = f 0) :
    ∀ i, i ≤ zs.length → ∃ s', Tr (f i) s' 0 ∧ lay (f i) s' 0 = f i ∧ allP (f i) s'.lvs = runP (allP (f 0) s.lvs) (zs.take i) ∧ (f i).length ≤ (f 0).length + 2 * i := by
  intro i
  induction i with
  | zero => intro _; exact ⟨s, hT, hp, by simp [runP], by omega⟩
  | succ i ih =>
    intro hi
    obtain ⟨s', h1, h2, h3, h4⟩ := ih (by omega)
    obtain ⟨o, ho⟩ : ∃ o, zs[i]? = some o := ⟨_, List.getElem?_eq_getElem (by omega)⟩
    obtain ⟨s2, h5, hD⟩ := hc i o ho
    obtain rfl := h5.uniq h1
    obtain ⟨s3, g1, g2, g3⟩ := doS_is h5 hD
    exact ⟨s3, g1, doS_plain h5 hD g1, by rw [g2, h3, take_snoc ho, runP_snoc], by omega⟩
theorem runP_take_len {L : List Pr} (zs : List OpD) (i : Nat) : (runP L (zs.take i)).length ≤ L.length + zs.length := by
  have h1 := runP_le L (zs.take i)
  have h2 : (zs.take i).length ≤ zs.length := by rw [List.length_take]; omega
  omega
end Go.Proofs.Ytijepfabkalcoaa
