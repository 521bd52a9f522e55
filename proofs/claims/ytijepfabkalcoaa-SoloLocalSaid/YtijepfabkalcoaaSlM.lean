/- Plain mathematics of an operation on a tree of leaves: the leaf of its key among all pairs, what an update there makes of all; stats of many leaves; the leaves from one key's to another's. No condition: definitions and lemmas. Plain mathematics of the leaves of a tree without places: each one's pairs and stat, in a split's answer and in a join's. No condition: definitions and lemmas. -/
import Derived.Test.YtijepfabkalcoaaTrM
import Derived.Test.YtijepfabkalcoaaMdM
import Derived.Test.YtijepfabkalcoaaLfM
import Derived.Test.YtijepfabkalcoaaLfO
namespace Go.Proofs.Ytijepfabkalcoaa
set_option linter.all false

/-! ### An operation among sorted pairs -/
theorem had_iff0 {L : List Pr} (h : Srt L) (z : Pr) : z ∈ L ↔ hadL L z.1 = (true, z.1, z.2) := by
  constructor
  · intro hz; exact hadL_mem h (v := z.2) hz
  · intro e
    obtain ⟨v, hv, e2⟩ := hadL_some (l := L) (k := z.1) (by rw [e])
    rw [e] at e2
    have : z.2 = v := by simpa using e2
    rw [← this] at hv
    exact hv
theorem had_ext0 {A B : List Pr} (ha : Srt A) (hb : Srt B) (k : Int) (h : ∀ z : Pr, z.1 = k → (z ∈ A ↔ z ∈ B)) : hadL A k = hadL B k := by
  cases ea : (hadL A k).1 with
  | true =>
    obtain ⟨v, hv, e⟩ := hadL_some ea
    rw [e, hadL_mem hb ((h (k, v) rfl).1 hv)]
  | false =>
    have h0 := hadL_none ea
    have e1 : hadL A k = (false, 0, 0) := hadL_not h0
    have e2 : hadL B k = (false, 0, 0) := hadL_not (fun z hz e => h0 z ((h z e).2 hz) e)
    rw [e1, e2]
theorem doP_s0 {L : List Pr} (hs : Srt L) (c k v : Int) : Srt (doP L c k v) := by
  by_cases h : okOp c
  · exact doP_srt hs h k v
  · rw [doP_bad (fun x => h x.2)]; exact hs
theorem doP_off0 {L : List Pr} (h : Srt L) {c k v : Int} (ho : okOp c) {z : Pr} (hz : z.1 ≠ k) : z ∈ doP L c k v ↔ z ∈ L := by
  have hw : z ∈ withL L k v ↔ z ∈ L := by
    rw [withL_in h]
    constructor
    · rintro (e | e)
      · exact absurd (by rw [e]) hz
      · exact e.1
    · intro e; exact .inr ⟨e, hz⟩
  by_cases h1 : c = 1
  · rw [doP_put h ho k v h1]; exact hw
  by_cases h2 : c = 2
  · rw [doP_add h ho k v h2]
    split
    · exact Iff.rfl
    · exact hw
  by_cases h3 : c = 3
  · rw [doP_cut h ho k v h3, cutL_mem]
    exact ⟨fun e => e.1, fun e => ⟨e, hz⟩⟩
  · rw [doP_read h ho k v (by have := ho.1; omega)]
theorem doP_had0 {L M : List Pr} (h : Srt L) (hm : Srt M) {c k v : Int} (ho : okOp c) (e : hadL L k = hadL M k) : hadL (doP L c k v) k = hadL (doP M c k v) k := by
  by_cases h3 : c ≤ 3
  · rw [had_doP h ho k v h3, had_doP hm ho k v h3, e]
  · rw [doP_read h ho k v (by omega), doP_read hm ho k v (by omega), e]
theorem doP_same0 {L M : List Pr} (h : Srt L) (hm : Srt M) {c v : Int} (ho : okOp c) {z : Pr} (e : hadL L z.1 = hadL M z.1) : z ∈ doP L c z.1 v ↔ z ∈ doP M c z.1 v := by
  rw [had_iff0 (doP_s0 h c z.1 v), had_iff0 (doP_s0 hm c z.1 v), doP_had0 h hm ho e]
theorem srt_mid {X p Y : List Pr} (h : Srt (X ++ p ++ Y)) : Srt X ∧ Srt p ∧ Srt Y := by
  obtain ⟨h1, h2, -⟩ := List.pairwise_append.1 h
  obtain ⟨h3, h4, -⟩ := List.pairwise_append.1 h1
  exact ⟨h3, h4, h2⟩
theorem had_mid {X p Y : List Pr} {k : Int} (h : Srt (X ++ p ++ Y)) (hx : ∀ z ∈ X, z.1 < k) (hy : ∀ z ∈ Y, k < z.1) : hadL (X ++ p ++ Y) k = hadL p k :=
  had_ext0 h (srt_mid h).2.1 k (fun z hz => by
    simp only [List.mem_append]
    constructor
    · rintro ((h1 | h1) | h1)
      · have := hx z h1; omega
      · exact h1
      · have := hy z h1; omega
    · intro h1; exact .inl (.inr h1))
theorem doP_in {p : List Pr} (h : Srt p) {c k v : Int} (ho : okOp c) {z : Pr} (hz : z ∈ doP p c k v) : z ∈ p ∨ z.1 = k := by
  by_cases e : z.1 = k
  · exact .inr e
  · exact .inl ((doP_off0 h ho e).1 hz)
theorem doP_mid {X p Y : List Pr} {k : Int} (h : Srt (X ++ p ++ Y)) (hx : ∀ z ∈ X, z.1 < k) (hy : ∀ z ∈ Y, k < z.1) {c v : Int} (ho : okOp c) : doP (X ++ p ++ Y) c k v = X ++ doP p c k v ++ Y := by
  obtain ⟨s1, s2, s3⟩ := srt_mid h
  have hp := doP_s0 s2 c k v
  have hS : Srt (X ++ doP p c k v ++ Y) := by
    obtain ⟨h1, h2, h3⟩ := List.pairwise_append.1 h
    obtain ⟨h4, h5, h6⟩ := List.pairwise_append.1 h1
    refine List.pairwise_append.2 ⟨List.pairwise_append.2 ⟨s1, hp, fun a ha b hb => ?_⟩, s3, fun a ha b hb => ?_⟩
    · rcases doP_in s2 ho hb with hb | hb
      · exact h6 a ha b hb
      · have := hx a ha; omega
    · rcases List.mem_append.1 ha with ha | ha
      · exact h3 a (List.mem_append_left _ ha) b hb
      · rcases doP_in s2 ho ha with ha | ha
        · exact h3 a (List.mem_append_right _ ha) b hb
        · have := hy b hb; omega
  refine srt_ext (doP_s0 h c k v) hS (fun z => ?_)
  by_cases e : z.1 = k
  · subst e
    rw [doP_same0 h s2 ho (had_mid h hx hy)]
    simp only [List.mem_append]
    constructor
    · intro h1; exact .inl (.inr h1)
    · rintro ((h1 | h1) | h1)
      · have := hx z h1; omega
      · exact h1
      · have := hy z h1; omega
  · rw [doP_off0 h ho e]
    simp only [List.mem_append]
    rw [doP_off0 s2 ho e]

/-! ### The leaf of a key among all pairs -/
theorem allP_out {N : List Nd} {i : Nat} {m : Nd} : ∀ {l : List Nat}, i ∉ l → allP (N.set i m) l = allP N l := by
  intro l h
  unfold allP
  congr 1
  exact List.map_congr_left (fun j hj => by rw [nd_set_ne (fun e => h (by rw [e]; exact hj))])
theorem dn_parts {N : List Nd} {k : Int} : ∀ {s : Sh} {t : Int} {lo hi : Option Int}, Hangs N s t lo hi → s.pre.Nodup →
    ∃ X Y, allP N s.lvs = X ++ (nd N (dn N k s).i).p ++ Y ∧ (inS lo hi k → (∀ z ∈ X, z.1 < k) ∧ ∀ z ∈ Y, k < z.1) ∧ ∀ m : Nd, allP (N.set (dn N k s).i m) s.lvs = X ++ m.p ++ Y := by
  intro s
  induction s with
  | lf i =>
    intro t lo hi h _
    refine ⟨[], [], by simp [dn, Sh.lvs, allP], fun _ => ⟨by simp, by simp⟩, fun m => ?_⟩
    obtain ⟨_, n, hn, _⟩ := h
    have hi' := (List.getElem?_eq_some_iff.1 hn).1
    simp [dn, Sh.lvs, allP, nd_set hi']
  | rt i l r ihl ihr =>
    intro t lo hi h hnd
    obtain ⟨_, n, hn, hr, ho, hl, hrr⟩ := h
    simp only [Sh.pre, List.nodup_cons, List.mem_append, List.nodup_append] at hnd
    obtain ⟨h1, h2, h3, h4⟩ := hnd
    rw [dn, nd_of hn]
    by_cases hk : n.k ≤ k
    · rw [if_pos hk]
      dsimp only
      obtain ⟨X, Y, e, hxy, hm⟩ := ihr hrr h3
      refine ⟨allP N l.lvs ++ X, Y, ?_, fun hS => ?_, fun m => ?_⟩
      · show allP N (l.lvs ++ r.lvs) = _
        rw [allP_app, e]; simp
      · obtain ⟨a1, a2⟩ := hxy ⟨fun x hx => by cases hx; exact hk, hS.2⟩
        refine ⟨fun z hz => ?_, a2⟩
        rcases List.mem_append.1 hz with hz | hz
        · have := ((allP_srt hl).2 z hz).2 _ rfl
          omega
        · exact a1 z hz
      · show allP _ (l.lvs ++ r.lvs) = _
        have hout : (dn N k r).i ∉ l.lvs := fun hh => h4 _ (lvs_pre _ _ hh) _ (lvs_pre _ _ (dn_lvs N k r)) rfl
        rw [allP_app, allP_out hout, hm m]; simp
    · rw [if_neg hk]
      dsimp only
      obtain ⟨X, Y, e, hxy, hm⟩ := ihl hl h2
      refine ⟨X, Y ++ allP N r.lvs, ?_, fun hS => ?_, fun m => ?_⟩
      · show allP N (l.lvs ++ r.lvs) = _
        rw [allP_app, e]; simp
      · obtain ⟨a1, a2⟩ := hxy ⟨hS.1, fun y hy => by cases hy; omega⟩
        refine ⟨a1, fun z hz => ?_⟩
        rcases List.mem_append.1 hz with hz | hz
        · exact a2 z hz
        · have := ((allP_srt hrr).2 z hz).1 _ rfl
          omega
      · show allP _ (l.lvs ++ r.lvs) = _
        have hout : (dn N k l).i ∉ r.lvs := fun hh => h4 _ (lvs_pre _ _ (dn_lvs N k l)) _ (lvs_pre _ _ hh) rfl
        rw [allP_app, allP_out hout, hm m]; simp
/-- What an operation makes of the leaf of its key it makes of all pairs; the leaf tells of the key what all do; the tree may be. -/
theorem tr_update {N : List Nd} {s : Sh} {t : Int} (h : Tr N s t) {c k v st : Int} (ho : okOp c) (h1 : -1000000 ≤ st) (h2 : st ≤ 1000000) :
    Tr (N.set (dn N k s).i ⟨false, 0, 0, 0, doP (nd N (dn N k s).i).p c k v, st⟩) s t ∧
    allP (N.set (dn N k s).i ⟨false, 0, 0, 0, doP (nd N (dn N k s).i).p c k v, st⟩) s.lvs = doP (allP N s.lvs) c k v ∧
    hadL (allP N s.lvs) k = hadL (nd N (dn N k s).i).p k := by
  have hnd := h.nd
  obtain ⟨X, Y, e, hxy, hm⟩ := dn_parts (k := k) h.hg hnd
  obtain ⟨a1, a2⟩ := hxy (inS_any k)
  have hs := (allP_srt h.hg).1
  have hil := dn_lvs N k s
  have hlt := h.hg.lt _ (lvs_pre _ _ hil)
  have hsp := hs
  rw [e] at hsp
  refine ⟨?_, ?_, ?_⟩
  · have hh := (hangs_set (l := doP (nd N (dn N k s).i).p c k v) (st := st) hlt h.hg hnd hil).2 ⟨h1, h2, doP_s0 (srt_mid hsp).2.1 c k v, fun q hq => by
      rcases doP_in (srt_mid hsp).2.1 ho hq with hq | hq
      · exact inLf_own h.hg _ hil q hq
      · rw [hq]; exact (inLf_dn h.hg (inS_any k)).2 rfl⟩
    exact ⟨by rw [List.length_set]; exact h.le, hh, hnd, by rw [List.length_set]; exact h.all⟩
  · rw [hm, e]
    exact (doP_mid hsp a1 a2 ho).symm
  · rw [e]
    exact had_mid hsp a1 a2

/-! ### Stats of many leaves -/
def stN (f : Int → Int) : List Nat → List Nd → List Nd
  | [], N => N
  | i :: l, N => stN f l (N.set i ⟨false, 0, 0, 0, (nd N i).p, f (nd N i).s⟩)
theorem allP_same {N : List Nd} {i : Nat} {st : Int} (hi : i < N.length) (l : List Nat) : allP (N.set i ⟨false, 0, 0, 0, (nd N i).p, st⟩) l = allP N l := by
  unfold allP
  congr 1
  refine List.map_congr_left (fun j _ => ?_)
  by_cases e : i = j
  · subst e; rw [nd_set hi]
  · rw [nd_set_ne e]
theorem tr_stat {N : List Nd} {s : Sh} {t : Int} (h : Tr N s t) {i : Nat} (hi : i ∈ s.lvs) {st : Int} (h1 : -1000000 ≤ st) (h2 : st ≤ 1000000) : Tr (N.set i ⟨false, 0, 0, 0, (nd N i).p, st⟩) s t := by
  have hlt := h.hg.lt _ (lvs_pre _ _ hi)
  have hs : Srt (nd N i).p := by
    obtain ⟨n, lo', hi', hn, ho, -⟩ := hangs_leaf h.hg i (lvs_pre _ _ hi)
    have hf := lf_false h.hg hi hn
    rw [nd_of hn]
    exact (ho hf).2.2.2.2.2.1
  have hh := (hangs_set (l := (nd N i).p) (st := st) hlt h.hg h.nd hi).2 ⟨h1, h2, hs, fun q hq => inLf_own h.hg i hi q hq⟩
  exact ⟨by rw [List.length_set]; exact h.le, hh, h.nd, by rw [List.length_set]; exact h.all⟩
theorem tr_stats {f : Int → Int} (hf : ∀ x, -1000000 ≤ f x ∧ f x ≤ 1000000) {s : Sh} {t : Int} : ∀ {l : List Nat} {N : List Nd}, Tr N s t → (∀ i ∈ l, i ∈ s.lvs) → Tr (stN f l N) s t ∧ (∀ m, allP (stN f l N) m = allP N m) ∧ (stN f l N).length = N.length := by
  intro l
  induction l with
  | nil => intro N h _; exact ⟨h, fun _ => rfl, rfl⟩
  | cons i l ih =>
    intro N h hl
    have hi := hl i List.mem_cons_self
    have h1 := tr_stat h hi (hf (nd N i).s).1 (hf (nd N i).s).2
    obtain ⟨a, b, c⟩ := ih h1 (fun j hj => hl j (List.mem_cons_of_mem _ hj))
    exact ⟨a, fun m => (b m).trans (allP_same (h.hg.lt _ (lvs_pre _ _ hi)) m), c.trans (List.length_set ..)⟩
/-- What each node is then: those of l have the new stat, once each. -/
theorem stN_nd {f : Int → Int} : ∀ {l : List Nat} {N : List Nd}, l.Nodup → (∀ i ∈ l, i < N.length) → ∀ j, nd (stN f l N) j = if j ∈ l then ⟨false, 0, 0, 0, (nd N j).p, f (nd N j).s⟩ else nd N j := by
  intro l
  induction l with
  | nil => intro N _ _ j; simp [stN]
  | cons i l ih =>
    intro N hn hl j
    obtain ⟨h1, h2⟩ := List.nodup_cons.1 hn
    have hi := hl i List.mem_cons_self
    rw [stN, ih h2 (fun k hk => by rw [List.length_set]; exact hl k (List.mem_cons_of_mem _ hk))]
    by_cases e : j = i
    · subst e
      rw [if_neg h1, if_pos List.mem_cons_self, nd_set hi]
    · rw [nd_set_ne (fun e' => e e'.symm)]
      simp [e]

/-! ### From one key's leaf to another's -/
theorem dn_mono {N : List Nd} {k h : Int} (hk : k ≤ h) : ∀ (s : Sh), ∃ (a b : Nat), a ≤ b ∧ s.lvs[a]? = some (dn N k s).i ∧ s.lvs[b]? = some (dn N h s).i := by
  intro s
  induction s with
  | lf i => exact ⟨0, 0, Nat.le_refl _, rfl, rfl⟩
  | rt i l r ihl ihr =>
    obtain ⟨a1, b1, h1, h2, h3⟩ := ihl
    obtain ⟨a2, b2, h4, h5, h6⟩ := ihr
    have la := (List.getElem?_eq_some_iff.1 h2).1
    have lb := (List.getElem?_eq_some_iff.1 h3).1
    rw [dn_i_rt, dn_i_rt]
    show ∃ a b, a ≤ b ∧ (l.lvs ++ r.lvs)[a]? = _ ∧ (l.lvs ++ r.lvs)[b]? = _
    by_cases e1 : (nd N i).k ≤ k
    · rw [if_pos e1, if_pos (by omega)]
      exact ⟨l.lvs.length + a2, l.lvs.length + b2, by omega, by rw [List.getElem?_append_right (by omega)]; simpa using h5, by rw [List.getElem?_append_right (by omega)]; simpa using h6⟩
    · rw [if_neg e1]
      by_cases e2 : (nd N i).k ≤ h
      · rw [if_pos e2]
        exact ⟨a1, l.lvs.length + b2, by omega, by rw [List.getElem?_append_left la]; exact h2, by rw [List.getElem?_append_right (by omega)]; simpa using h6⟩
      · rw [if_neg e2]
        exact ⟨a1, b1, h1, by rw [List.getElem?_append_left la]; exact h2, by rw [List.getElem?_append_left lb]; exact h3⟩
/-- The leaves from f on up to t, one by one. -/
def tchL (f t : Nat) : Bool → List Nat → List Nat
  | _, [] => []
  | on, i :: r => (if (on || i == f) = true then [i] else []) ++ (if i = t then [] else tchL f t (on || i == f) r)
theorem tchL_on {f t : Nat} : ∀ {l : List Nat} {b : Nat}, l.Nodup → l[b]? = some t → tchL f t true l = l.take (b + 1) := by
  intro l
  induction l with
  | nil => intro b _ h; simp at h
  | cons i r ih =>
    intro b hn h
    obtain ⟨h1, h2⟩ := List.nodup_cons.1 hn
    rw [tchL]
    simp only [Bool.true_or, if_true]
    cases b with
    | zero =>
      simp at h
      subst h
      simp
    | succ b =>
      simp only [List.getElem?_cons_succ] at h
      have hne : i ≠ t := fun e => h1 (by rw [e]; exact List.mem_of_getElem? h)
      rw [if_neg hne, ih h2 h]
      simp
theorem tchL_is {f t : Nat} : ∀ {l : List Nat} {a b : Nat}, l.Nodup → a ≤ b → l[a]? = some f → l[b]? = some t → tchL f t false l = (l.take (b + 1)).drop a := by
  intro l
  induction l with
  | nil => intro a b _ _ h; simp at h
  | cons i r ih =>
    intro a b hn hab hf ht
    obtain ⟨h1, h2⟩ := List.nodup_cons.1 hn
    cases a with
    | zero =>
      simp at hf
      subst hf
      have h0 : (i == i) = true := by simp
      have hh := tchL_on (f := i) (l := i :: r) hn ht
      rw [tchL] at hh ⊢
      simp only [Bool.true_or, Bool.false_or, h0] at hh ⊢
      rw [hh]
      simp
    | succ a =>
      cases b with
      | zero => omega
      | succ b =>
        simp only [List.getElem?_cons_succ] at hf ht
        have hne : i ≠ f := fun e => h1 (by rw [e]; exact List.mem_of_getElem? hf)
        have hnt : i ≠ t := fun e => h1 (by rw [e]; exact List.mem_of_getElem? ht)
        have h0 : (i == f) = false := by simp [hne]
        rw [tchL]
        simp only [Bool.false_or, h0]
        rw [if_neg (by decide), if_neg hnt, ih h2 (by omega) hf ht]
        simp
end Go.Proofs.Ytijepfabkalcoaa

namespace Go.Proofs.Ytijepfabkalcoaa
set_option linter.all false

/-- Each leaf's pairs and stat, from left to right. -/
def AT.lst : AT → List (List Pr × Int)
  | .lf p st => [(p, st)]
  | .rt _ l r => l.lst ++ r.lst
/-- What a place says of its leaf. -/
def pst (N : List Nd) (i : Nat) : List Pr × Int := ((nd N i).p, (nd N i).s)
theorem ab_lst (N : List Nd) (s : Sh) : (ab N s).lst = s.lvs.map (pst N) := by
  induction s with
  | lf i => rfl
  | rt i l r ihl ihr => simp only [ab, AT.lst, Sh.lvs, List.map_append, ihl, ihr]
theorem lst_plain (T : AT) : (T.sh 0).lvs.map (pst (T.lay 0)) = T.lst := by
  rw [← ab_lst, AT.ab_plain]
theorem lst_lay {N : List Nd} {s : Sh} {t : Int} (h : Tr N s t) : ((ab N s).sh 0).lvs.map (pst (lay N s 0)) = s.lvs.map (pst N) := by
  rw [lay_ab 0 h.hg, lst_plain, ab_lst]
def lsS (N : List Nd) (i j : Nat) : List (List Pr × Int) :=
  if j = i then [((nd N j).p.take ((nd N j).p.length / 2), 0), ((nd N j).p.drop ((nd N j).p.length / 2), 0)] else [pst N j]
theorem splA_lst (N : List Nd) (i : Nat) : ∀ s : Sh, (splA N i s).lst = s.lvs.flatMap (lsS N i) := by
  intro s
  induction s with
  | lf j =>
    simp only [splA, Sh.lvs, List.flatMap_cons, List.flatMap_nil, List.append_nil, lsS]
    split <;> rfl
  | rt j l r ihl ihr => simp only [splA, AT.lst, Sh.lvs, List.flatMap_append, ihl, ihr]
/-- All other leaves stand in a split's answer, in their order. -/
theorem flat_sub (N : List Nd) (i : Nat) : ∀ l : List Nat, ((l.filter (fun j => decide (j ≠ i))).map (pst N)).Sublist (l.flatMap (lsS N i)) := by
  intro l
  induction l with
  | nil => simp
  | cons j l ih =>
    rw [List.flatMap_cons]
    by_cases e : j = i
    · rw [List.filter_cons_of_neg (by simp [e])]
      exact ih.trans (List.sublist_append_right _ _)
    · rw [List.filter_cons_of_pos (by simp [e]), List.map_cons, lsS, if_neg e]
      exact List.Sublist.cons₂ _ ih
theorem splA_sub (N : List Nd) (i : Nat) (s : Sh) : ((s.lvs.filter (fun j => decide (j ≠ i))).map (pst N)).Sublist (splA N i s).lst := by
  rw [splA_lst]; exact flat_sub N i _
/-! ### Going along two rows -/
/-- Whoever goes along a row and takes the first that is alike finds each of a row that stands within it. -/
theorem sub_next {α : Type} {x : α} {a b : List α} (h : (x :: a).Sublist b) : ∀ k, k ≤ b.length → (x :: a).Sublist (b.drop k) → ∃ m, k ≤ m ∧ b[m]? = some x ∧ (∀ j, k ≤ j → j < m → b[j]? ≠ some x) ∧ a.Sublist (b.drop (m + 1)) := by
  intro k
  induction hd : b.length - k generalizing k with
  | zero =>
    intro hk hs
    have := hs.length_le
    simp at this
    omega
  | succ n ih =>
    intro hk hs
    have hlt : k < b.length := by omega
    rw [List.drop_eq_getElem_cons hlt] at hs
    by_cases e : b[k] = x
    · refine ⟨k, Nat.le_refl _, by rw [List.getElem?_eq_getElem hlt, e], fun j h1 h2 => by omega, ?_⟩
      rw [e] at hs
      exact List.cons_sublist_cons.1 hs
    · have hs2 : (x :: a).Sublist (b.drop (k + 1)) := by
        cases hs with
        | cons _ h => exact h
        | cons_cons _ h => exact absurd rfl e
      obtain ⟨m, h1, h2, h3, h4⟩ := ih (k + 1) (by omega) (by omega) hs2
      refine ⟨m, by omega, h2, fun j a1 a2 => ?_, h4⟩
      rcases Nat.lt_or_ge k j with h | h
      · exact h3 j (by omega) a2
      · have : j = k := by omega
        subst this
        rw [List.getElem?_eq_getElem hlt]
        exact fun e' => e (Option.some.inj e')
/-- The leaves that a range touches. -/
def tch (N : List Nd) (s : Sh) (k hi : Int) : List Nat := tchL (dn N k s).i (dn N hi s).i false s.lvs
/-- The leaves that a call touches. -/
def tchd (N : List Nd) (s : Sh) (c k hi : Int) : List Nat :=
  if c ≤ 4 then [(dn N k s).i] else if c ≤ 6 ∧ k ≤ hi then tch N s k hi else []
end Go.Proofs.Ytijepfabkalcoaa
