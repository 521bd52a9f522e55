/- Plain mathematics of a join as adapt lays it out place by place: a route gone, its other side in its place, two places dropped. No condition: definitions and lemmas. -/
import Derived.Test.YtijepfabkalcoaaTrM
namespace Go.Proofs.Ytijepfabkalcoaa
set_option linter.all false

/-- The neighbour is beside the leaf, on the side that the lowest route says. -/
theorem nextA_par {i : Nat} : ∀ {s : Sh}, i ∈ s.lvs → isLf i s = false → ∃ x b k m, parA i s = some (x, b) ∧ nextA i s = some k ∧ ((b = false ∧ s.lvs[m]? = some i ∧ s.lvs[m + 1]? = some k) ∨ (b = true ∧ s.lvs[m]? = some k ∧ s.lvs[m + 1]? = some i)) := by
  intro s
  induction s with
  | lf j => intro hi' h; obtain ⟨_, _, _, e⟩ := not_lf hi' h; cases e
  | rt j l r ihl ihr =>
    intro hi' _
    rcases ways (l := l) (r := r) hi' with rfl | ⟨h1, rfl⟩ | ⟨h1, h2, h3⟩ | ⟨h1, h2, h3, h4⟩
    · obtain ⟨k, rest, e⟩ := List.exists_cons_of_ne_nil (l := r.lvs) (fun e => by have := lvs_pos r; rw [e] at this; exact absurd this (by simp))
      refine ⟨j, false, k, 0, parA_1, by rw [nextA_1, e]; rfl, .inl ⟨rfl, rfl, ?_⟩⟩
      simp [Sh.lvs, e]
    · have hp := lvs_pos l
      obtain ⟨k, hk⟩ : ∃ k, l.lvs[l.lvs.length - 1]? = some k := ⟨_, List.getElem?_eq_getElem (by omega)⟩
      refine ⟨j, true, k, l.lvs.length - 1, parA_2 h1, by rw [nextA_2 h1, List.getLast?_eq_getElem?, hk], .inr ⟨rfl, ?_, ?_⟩⟩
      · simp only [Sh.lvs]; rw [List.getElem?_append_left (by omega), hk]
      · simp only [Sh.lvs]; rw [List.getElem?_append_right (by omega), show l.lvs.length - 1 + 1 - l.lvs.length = 0 by omega]; rfl
    · obtain ⟨x, b, k, m, e0, e, h⟩ := ihl h3 h1
      refine ⟨x, b, k, m, by rw [parA_3 h1 h2 h3, e0], by rw [nextA_3 h1 h2 h3, e], ?_⟩
      simp only [Sh.lvs]
      rcases h with ⟨hb', ha, hb⟩ | ⟨hb', ha, hb⟩
      · have := (List.getElem?_eq_some_iff.1 hb).1
        exact .inl ⟨hb', by rw [List.getElem?_append_left (by omega), ha], by rw [List.getElem?_append_left (by omega), hb]⟩
      · have := (List.getElem?_eq_some_iff.1 hb).1
        exact .inr ⟨hb', by rw [List.getElem?_append_left (by omega), ha], by rw [List.getElem?_append_left (by omega), hb]⟩
    · obtain ⟨x, b, k, m, e0, e, h⟩ := ihr h4 h2
      refine ⟨x, b, k, l.lvs.length + m, by rw [parA_4 h1 h2 h3, e0], by rw [nextA_4 h1 h2 h3, e], ?_⟩
      simp only [Sh.lvs]
      rcases h with ⟨hb', ha, hb⟩ | ⟨hb', ha, hb⟩
      · exact .inl ⟨hb', by rw [List.getElem?_append_right (by omega), Nat.add_sub_cancel_left, ha], by rw [List.getElem?_append_right (by omega), show l.lvs.length + m + 1 - l.lvs.length = m + 1 by omega, hb]⟩
      · exact .inr ⟨hb', by rw [List.getElem?_append_right (by omega), Nat.add_sub_cancel_left, ha], by rw [List.getElem?_append_right (by omega), show l.lvs.length + m + 1 - l.lvs.length = m + 1 by omega, hb]⟩

/-- What hangs where, whatever the keys. -/
def Lk (N : List Nd) : Sh → Int → Prop
  | .lf i, t => t = i ∧ i < N.length ∧ (nd N i).r = false ∧ (nd N i).k = 0 ∧ (nd N i).a = 0 ∧ (nd N i).b = 0
  | .rt i l r, t => t = i ∧ i < N.length ∧ (nd N i).r = true ∧ (nd N i).p = [] ∧ (nd N i).s = 0 ∧ Lk N l (nd N i).a ∧ Lk N r (nd N i).b
theorem Lk.top {N : List Nd} {s : Sh} {t : Int} (h : Lk N s t) : t = (s.top : Int) := by
  cases s <;> exact h.1
theorem hangs_lk {N : List Nd} : ∀ {s : Sh} {t : Int} {lo hi : Option Int}, Hangs N s t lo hi → Lk N s t := by
  intro s
  induction s with
  | lf i =>
    intro t lo hi h
    obtain ⟨e, n, hn, hr, h1, h2, h3, _⟩ := h
    have := nd_of hn
    exact ⟨e, (List.getElem?_eq_some_iff.1 hn).1, by rw [this]; exact hr, by rw [this]; exact h1, by rw [this]; exact h2, by rw [this]; exact h3⟩
  | rt i l r ihl ihr =>
    intro t lo hi h
    obtain ⟨e, n, hn, hr, ⟨h1, h2, _, _⟩, hl, hrr⟩ := h
    have := nd_of hn
    exact ⟨e, (List.getElem?_eq_some_iff.1 hn).1, by rw [this]; exact hr, by rw [this]; exact h1, by rw [this]; exact h2, by rw [this]; exact ihl hl, by rw [this]; exact ihr hrr⟩
theorem lk_hangs {N : List Nd} : ∀ {s : Sh} {t : Int} {lo hi : Option Int}, Lk N s t → (ab N s).ok lo hi → Hangs N s t lo hi := by
  intro s
  induction s with
  | lf i =>
    intro t lo hi h ho
    obtain ⟨e, hl, hr, h1, h2, h3⟩ := h
    obtain ⟨o1, o2, o3, o4⟩ := ho
    exact ⟨e, _, nd_get hl, hr, h1, h2, h3, o1, o2, o3, o4⟩
  | rt i l r ihl ihr =>
    intro t lo hi h ho
    obtain ⟨e, hl, hr, h1, h2, hL, hR⟩ := h
    obtain ⟨o1, o2, o3, o4⟩ := ho
    exact ⟨e, _, nd_get hl, hr, ⟨h1, h2, o1, o2⟩, ihl hL o3, ihr hR o4⟩
theorem lk_congr {N M : List Nd} (hl : N.length ≤ M.length) : ∀ {s : Sh} {t : Int}, (∀ j ∈ s.pre, nd M j = nd N j) → Lk N s t → Lk M s t := by
  intro s
  induction s with
  | lf i =>
    intro t h hk
    have e := h i (by simp [Sh.pre])
    unfold Lk at hk ⊢
    rw [e]
    exact ⟨hk.1, by omega, hk.2.2⟩
  | rt i l r ihl ihr =>
    intro t h hk
    have e := h i (by simp [Sh.pre])
    unfold Lk at hk ⊢
    rw [e]
    obtain ⟨k1, k2, k3, k4, k5, k6, k7⟩ := hk
    exact ⟨k1, by omega, k3, k4, k5, ihl (fun j hj => h j (by simp [Sh.pre, hj])) k6, ihr (fun j hj => h j (by simp [Sh.pre, hj])) k7⟩
theorem lk_set {N : List Nd} {k : Nat} {m : Nd} (hkl : k < N.length) (hk : (nd N k).r = false) (h1 : m.r = false) (h2 : m.k = 0) (h3 : m.a = 0) (h4 : m.b = 0) : ∀ {s : Sh} {t : Int}, Lk N s t → Lk (N.set k m) s t := by
  intro s
  induction s with
  | lf i =>
    intro t h
    unfold Lk at h ⊢
    rw [List.length_set]
    by_cases e : k = i
    · subst e
      rw [nd_set hkl]
      exact ⟨h.1, h.2.1, h1, h2, h3, h4⟩
    · rw [nd_set_ne e]; exact h
  | rt i l r ihl ihr =>
    intro t h
    unfold Lk at h ⊢
    obtain ⟨k1, k2, k3, k4, k5, k6, k7⟩ := h
    have e : k ≠ i := fun e => by subst e; rw [hk] at k3; cases k3
    rw [List.length_set, nd_set_ne e]
    exact ⟨k1, k2, k3, k4, k5, ihl k6, ihr k7⟩

/-- The same with another place on top. -/
def Sh.re (x : Nat) : Sh → Sh
  | .lf _ => .lf x
  | .rt _ l r => .rt x l r
/-- The shape without a route: its other side stands in the route's own place. -/
def skx (x : Nat) (b : Bool) : Sh → Sh
  | .lf i => .lf i
  | .rt i l r => if i = x then (if b = true then l.re x else r.re x) else .rt i (skx x b l) (skx x b r)
theorem Sh.re_top (x : Nat) (s : Sh) : (s.re x).top = x := by cases s <;> rfl
theorem skx_top {x : Nat} {b : Bool} (s : Sh) : (skx x b s).top = s.top := by
  cases s with
  | lf i => rfl
  | rt i l r =>
    unfold skx
    split
    · rename_i e
      split
      · exact (Sh.re_top x l).trans e.symm
      · exact (Sh.re_top x r).trans e.symm
    · rfl
theorem skx_out {x : Nat} {b : Bool} : ∀ {s : Sh}, x ∉ s.pre → skx x b s = s := by
  intro s
  induction s with
  | lf i => intro _; rfl
  | rt i l r ihl ihr =>
    intro h
    simp only [Sh.pre, List.mem_cons, List.mem_append, not_or] at h
    rw [skx, if_neg (fun e => h.1 e.symm), ihl h.2.1, ihr h.2.2]
theorem re_pre (x : Nat) (s : Sh) : ∃ l, s.pre = s.top :: l ∧ (s.re x).pre = x :: l := by
  cases s with
  | lf i => exact ⟨[], rfl, rfl⟩
  | rt i l r => exact ⟨_, rfl, rfl⟩
/-- Which places are left. -/
theorem skx_perm {N : List Nd} {i x : Nat} {b : Bool} : ∀ {s : Sh} {t : Int}, Lk N s t → s.pre.Nodup → i ∈ s.lvs → isLf i s = false → parA i s = some (x, b) →
    ∃ o : Nat, (bif b then (nd N x).a else (nd N x).b) = (o : Int) ∧ s.pre.Perm (i :: o :: (skx x b s).pre) ∧ x ∈ (skx x b s).pre ∧ (nd N x).r = true := by
  intro s
  induction s with
  | lf j => intro t _ _ hi' h; obtain ⟨_, _, _, e⟩ := not_lf hi' h; cases e
  | rt j l r ihl ihr =>
    intro t hk hnd hi' _ hp
    obtain ⟨k1, k2, k3, k4, k5, k6, k7⟩ := hk
    simp only [Sh.pre, List.nodup_cons, List.nodup_append] at hnd
    obtain ⟨hj, ndl, ndr, hd⟩ := hnd
    rcases ways (l := l) (r := r) hi' with rfl | ⟨h1, rfl⟩ | ⟨h1, h2, h3⟩ | ⟨h1, h2, h3, h4⟩
    · rw [parA_1] at hp
      cases hp
      obtain ⟨rest, e1, e2⟩ := re_pre x r
      refine ⟨r.top, k7.top, ?_, by rw [skx, if_pos rfl, if_neg (by decide), e2]; simp, k3⟩
      rw [skx, if_pos rfl, if_neg (by decide), e2]
      simp only [Sh.pre, e1]
      refine List.perm_iff_count.2 fun y => ?_
      simp only [List.count_cons, List.count_append, List.count_nil]
      omega
    · rw [parA_2 h1] at hp
      cases hp
      obtain ⟨rest, e1, e2⟩ := re_pre x l
      refine ⟨l.top, k6.top, ?_, by rw [skx, if_pos rfl, if_pos rfl, e2]; simp, k3⟩
      rw [skx, if_pos rfl, if_pos rfl, e2]
      simp only [Sh.pre, e1]
      refine List.perm_iff_count.2 fun y => ?_
      simp only [List.count_cons, List.count_append, List.count_nil]
      omega
    · rw [parA_3 h1 h2 h3] at hp
      obtain ⟨o, e1, e2, e3, e4⟩ := ihl k6 ndl h3 h1 hp
      have hx : x ∈ l.pre := e2.mem_iff.2 (by simp [e3])
      have hxj : j ≠ x := fun e => hj (by rw [e]; exact List.mem_append_left _ hx)
      refine ⟨o, e1, ?_, ?_, e4⟩
      · rw [skx, if_neg hxj, skx_out (s := r) (fun hh => hd x hx x hh rfl)]
        refine List.perm_iff_count.2 fun y => ?_
        have := e2.count_eq y
        simp only [Sh.pre, List.count_cons, List.count_append] at this ⊢
        omega
      · rw [skx, if_neg hxj]; simp [Sh.pre, e3]
    · rw [parA_4 h1 h2 h3] at hp
      obtain ⟨o, e1, e2, e3, e4⟩ := ihr k7 ndr h4 h2 hp
      have hx : x ∈ r.pre := e2.mem_iff.2 (by simp [e3])
      have hxj : j ≠ x := fun e => hj (by rw [e]; exact List.mem_append_right _ hx)
      refine ⟨o, e1, ?_, ?_, e4⟩
      · rw [skx, if_neg hxj, skx_out (s := l) (fun hh => hd x hh x hx rfl)]
        refine List.perm_iff_count.2 fun y => ?_
        have := e2.count_eq y
        simp only [Sh.pre, List.count_cons, List.count_append] at this ⊢
        omega
      · rw [skx, if_neg hxj]; simp [Sh.pre, e3]
/-- The other side in the route's own place: what hangs there, what it says. -/
theorem lk_re {N : List Nd} {x : Nat} (hx : x < N.length) : ∀ {s : Sh} {o : Nat}, Lk N s (o : Int) → x ∉ s.pre → Lk (N.set x (nd N o)) (s.re x) (x : Int) ∧ ab (N.set x (nd N o)) (s.re x) = ab N s := by
  intro s
  cases s with
  | lf j =>
    intro o h hn
    obtain ⟨e, h1, h2, h3, h4, h5⟩ := h
    obtain rfl : o = j := by omega
    simp only [Sh.re, Lk, ab]
    rw [nd_set hx, List.length_set]
    exact ⟨⟨by trivial, hx, h2, h3, h4, h5⟩, rfl⟩
  | rt j l r =>
    intro o h hn
    obtain ⟨e, h1, h2, h3, h4, h5, h6⟩ := h
    obtain rfl : o = j := by omega
    simp only [Sh.pre, List.mem_cons, List.mem_append, not_or] at hn
    simp only [Sh.re, Lk, ab]
    rw [nd_set hx, List.length_set]
    have cl : ∀ y ∈ l.pre, nd (N.set x (nd N o)) y = nd N y := fun y hy => nd_set_ne (fun e => hn.2.1 (by rw [e]; exact hy))
    have cr : ∀ y ∈ r.pre, nd (N.set x (nd N o)) y = nd N y := fun y hy => nd_set_ne (fun e => hn.2.2 (by rw [e]; exact hy))
    exact ⟨⟨by trivial, hx, h2, h3, h4, lk_congr (by rw [List.length_set]; exact Nat.le_refl _) cl h5, lk_congr (by rw [List.length_set]; exact Nat.le_refl _) cr h6⟩, by rw [ab_congr cl, ab_congr cr]⟩
theorem lk_skx {N : List Nd} {x o : Nat} {b : Bool} (hxr : (nd N x).r = true) (ho : (bif b then (nd N x).a else (nd N x).b) = (o : Int)) : ∀ {s : Sh} {t : Int}, s.pre.Nodup → x ∈ s.pre → Lk N s t →
    Lk (N.set x (nd N o)) (skx x b s) t ∧ ab (N.set x (nd N o)) (skx x b s) = ab N (skp x b s) := by
  intro s
  induction s with
  | lf j =>
    intro t _ hx h
    simp [Sh.pre] at hx
    subst hx
    rw [h.2.2.1] at hxr; cases hxr
  | rt j l r ihl ihr =>
    intro t hnd hx h
    obtain ⟨k1, k2, k3, k4, k5, k6, k7⟩ := h
    simp only [Sh.pre, List.nodup_cons, List.nodup_append] at hnd
    obtain ⟨hj, ndl, ndr, hd⟩ := hnd
    simp only [List.mem_append, not_or] at hj
    by_cases e : j = x
    · subst e
      rw [skx, if_pos rfl, skp, if_pos rfl, k1]
      cases b
      · simp only [cond_false] at ho
        rw [ho] at k7
        exact lk_re k2 k7 hj.2
      · simp only [cond_true] at ho
        rw [ho] at k6
        exact lk_re k2 k6 hj.1
    · rw [skx, if_neg e, skp, if_neg e]
      simp only [Sh.pre, List.mem_cons, List.mem_append] at hx
      simp only [Lk, ab]
      rw [List.length_set, nd_set_ne (fun e' => e e'.symm)]
      rcases hx with hx | hx | hx
      · exact absurd hx.symm e
      · have hxr' : x ∉ r.pre := fun hh => hd x hx x hh rfl
        have cr : ∀ y ∈ r.pre, nd (N.set x (nd N o)) y = nd N y := fun y hy => nd_set_ne (fun e => hxr' (by rw [e]; exact hy))
        obtain ⟨i1, i2⟩ := ihl ndl hx k6
        rw [skx_out hxr', skp_out hxr', i2, ab_congr cr]
        exact ⟨⟨k1, k2, k3, k4, k5, i1, lk_congr (by rw [List.length_set]; exact Nat.le_refl _) cr k7⟩, rfl⟩
      · have hxl : x ∉ l.pre := fun hh => hd x hh x hx rfl
        have cl : ∀ y ∈ l.pre, nd (N.set x (nd N o)) y = nd N y := fun y hy => nd_set_ne (fun e => hxl (by rw [e]; exact hy))
        obtain ⟨i1, i2⟩ := ihr ndr hx k7
        rw [skx_out hxl, skp_out hxl, i2, ab_congr cl]
        exact ⟨⟨k1, k2, k3, k4, k5, lk_congr (by rw [List.length_set]; exact Nat.le_refl _) cl k6, i1⟩, rfl⟩

/-! ### Two places dropped -/

/-- Where a place is then. -/
def shf (i o j : Nat) : Nat := j - (if i < j then 1 else 0) - (if o < j then 1 else 0)
/-- The first n nodes without those two. -/
def drp (N : List Nd) (i o n : Nat) : List Nd := ((List.range n).filter (fun j => decide (j ≠ i ∧ j ≠ o))).map (fun j => fixn (shf i o) (nd N j))
theorem drp_no {N : List Nd} {i o n : Nat} (h : n = i ∨ n = o) : drp N i o (n + 1) = drp N i o n := by
  unfold drp
  rw [List.range_succ, List.filter_append]
  have : ([n].filter (fun j => decide (j ≠ i ∧ j ≠ o))) = [] := by
    simp only [List.filter_cons, List.filter_nil]
    rw [if_neg]
    intro hh
    have := of_decide_eq_true hh
    omega
  rw [this, List.append_nil]
theorem drp_yes {N : List Nd} {i o n : Nat} (h1 : n ≠ i) (h2 : n ≠ o) : drp N i o (n + 1) = drp N i o n ++ [fixn (shf i o) (nd N n)] := by
  unfold drp
  rw [List.range_succ, List.filter_append]
  have : ([n].filter (fun j => decide (j ≠ i ∧ j ≠ o))) = [n] := by
    simp only [List.filter_cons, List.filter_nil]
    rw [if_pos (decide_eq_true ⟨h1, h2⟩)]
  rw [this, List.map_append]
  rfl
theorem drp_len {N : List Nd} {i o : Nat} (h : i ≠ o) : ∀ n, (drp N i o n).length = shf i o n := by
  intro n
  induction n with
  | zero => simp [drp, shf]
  | succ n ih =>
    rcases Classical.em (n = i ∨ n = o) with e | e
    · rw [drp_no e, ih]
      unfold shf
      rcases e with rfl | rfl
      · rw [if_neg (Nat.lt_irrefl _), if_pos (Nat.lt_succ_self _)]
        by_cases h' : o < n
        · rw [if_pos h', if_pos (by omega)]; omega
        · rw [if_neg h', if_neg (by omega)]; omega
      · rw [if_neg (Nat.lt_irrefl _), if_pos (Nat.lt_succ_self _)]
        by_cases h' : i < n
        · rw [if_pos h', if_pos (by omega)]; omega
        · rw [if_neg h', if_neg (by omega)]; omega
    · rw [drp_yes (fun e' => e (.inl e')) (fun e' => e (.inr e')), List.length_append, ih]
      simp only [List.length_singleton]
      unfold shf
      by_cases h1 : i < n
      · by_cases h2 : o < n
        · rw [if_pos h1, if_pos h2, if_pos (by omega), if_pos (by omega)]; omega
        · rw [if_pos h1, if_neg h2, if_pos (by omega), if_neg (by omega)]; omega
      · by_cases h2 : o < n
        · rw [if_neg h1, if_pos h2, if_neg (by omega), if_pos (by omega)]; omega
        · rw [if_neg h1, if_neg h2, if_neg (by omega), if_neg (by omega)]; omega
theorem drp_get {N : List Nd} {i o j : Nat} (h : i ≠ o) (h1 : j ≠ i) (h2 : j ≠ o) : ∀ n, j < n → (drp N i o n)[shf i o j]? = some (fixn (shf i o) (nd N j)) := by
  intro n
  induction n with
  | zero => intro hj; omega
  | succ n ih =>
    intro hj
    rcases Nat.lt_succ_iff_lt_or_eq.1 hj with hj | rfl
    · have e := ih hj
      rcases Classical.em (n = i ∨ n = o) with e' | e'
      · rw [drp_no e']; exact e
      · rw [drp_yes (fun e2 => e' (.inl e2)) (fun e2 => e' (.inr e2)), List.getElem?_append_left (List.getElem?_eq_some_iff.1 e).1]; exact e
    · rw [drp_yes h1 h2, List.getElem?_append_right (by rw [drp_len h]; exact Nat.le_refl _), drp_len h, Nat.sub_self]; rfl
theorem shf_inj {i o a b : Nat} (h : i ≠ o) (a1 : a ≠ i) (a2 : a ≠ o) (b1 : b ≠ i) (b2 : b ≠ o) (e : shf i o a = shf i o b) : a = b := by
  have e1 := drp_get (N := (List.range (a + b + 1)).map (fun j : Nat => (⟨false, (j : Int), 0, 0, [], 0⟩ : Nd))) h a1 a2 (a + b + 1) (by omega)
  have e2 := drp_get (N := (List.range (a + b + 1)).map (fun j : Nat => (⟨false, (j : Int), 0, 0, [], 0⟩ : Nd))) h b1 b2 (a + b + 1) (by omega)
  rw [e, e2] at e1
  have n1 : nd ((List.range (a + b + 1)).map (fun j : Nat => (⟨false, (j : Int), 0, 0, [], 0⟩ : Nd))) a = ⟨false, (a : Int), 0, 0, [], 0⟩ := nd_of (by rw [List.getElem?_map, List.getElem?_range (by omega)]; rfl)
  have n2 : nd ((List.range (a + b + 1)).map (fun j : Nat => (⟨false, (j : Int), 0, 0, [], 0⟩ : Nd))) b = ⟨false, (b : Int), 0, 0, [], 0⟩ := nd_of (by rw [List.getElem?_map, List.getElem?_range (by omega)]; rfl)
  rw [n1, n2, fixn_lf rfl, fixn_lf rfl] at e1
  injection e1 with e1
  injection e1 with _ e1
  omega

/-- What adapt lays out for a join. -/
def joiN (N : List Nd) (i k x o : Nat) (b : Bool) : List Nd := (N.set k (merged N i k b)).set x (nd (N.set k (merged N i k b)) o)
theorem joiN_len (N : List Nd) (i k x o : Nat) (b : Bool) : (joiN N i k x o b).length = N.length := by simp [joiN]
/-- It is the join. -/
theorem join_drp {N : List Nd} {s : Sh} {t : Int} (h : Tr N s t) {i k x : Nat} {b : Bool} (hi : i ∈ s.lvs) (hl : isLf i s = false) (hp : parA i s = some (x, b)) (hn : nextA i s = some k) :
    ∃ T, ∃ o : Nat, joinA N i s = some T ∧ (bif b then (nd N x).a else (nd N x).b) = (o : Int) ∧ (nd N x).r = true ∧ i < N.length ∧ k < N.length ∧ x < N.length ∧ o < N.length ∧ i ≠ o ∧ i ≠ x ∧ o ≠ x ∧ k ≠ x ∧ i ≠ k ∧ (nd N k).r = false ∧
      (∀ z < N.length, (nd (joiN N i k x o b) z).r = true → ∃ u v : Nat, (nd (joiN N i k x o b) z).a = u ∧ (nd (joiN N i k x o b) z).b = v ∧ u < N.length ∧ v < N.length) ∧
      ∃ s', Tr (drp (joiN N i k x o b) i o N.length) s' ((shf i o s.top : Nat) : Int) ∧ lay (drp (joiN N i k x o b) i o N.length) s' 0 = T.lay 0 := by
  obtain ⟨T, e, hlay, hok, hsz, _, _⟩ := join_lay h hi hl hp hn
  have hkm := nextA_mem hi hn
  have hkp := lvs_pre s k hkm
  have hk := h.hg.lt k hkp
  obtain ⟨hkr, _⟩ := lf_plain h.hg k hkm
  obtain ⟨xs, _, ejs, _⟩ := joinA_skp (N := N) hk h.nd hi hl hp hn
  rw [e] at ejs
  obtain rfl : T = ab (N.set k (merged N i k b)) (skp x b s) := by cases ejs; rfl
  have hlk := hangs_lk h.hg
  obtain ⟨o, ho, hperm, hxm, hxr⟩ := skx_perm hlk h.nd hi hl hp
  have hnd2 : (i :: o :: (skx x b s).pre).Nodup := (hperm.nodup_iff).1 h.nd
  simp only [List.nodup_cons, List.mem_cons, not_or] at hnd2
  obtain ⟨⟨hio, hiS⟩, hoS, hndS⟩ := hnd2
  have hip := lvs_pre s i hi
  have hil := h.hg.lt i hip
  have hop : o ∈ s.pre := hperm.mem_iff.2 (by simp)
  have hol := h.hg.lt o hop
  have hxl := h.hg.lt x xs
  have hkx : k ≠ x := fun e' => by subst e'; rw [hkr] at hxr; cases hxr
  have hik : i ≠ k := by
    obtain ⟨k', m, e', hh⟩ := nextA_is hi hl
    rw [hn] at e'; cases e'
    have nl := lvs_nodup h.nd
    intro e'
    subst e'
    rcases hh with ⟨ha, hb⟩ | ⟨ha, hb⟩
    · have := nodup_at nl ha hb; omega
    · have := nodup_at nl ha hb; omega
  have h2 : Lk (N.set k (merged N i k b)) s t := lk_set hk hkr rfl rfl rfl rfl hlk
  have ex : nd (N.set k (merged N i k b)) x = nd N x := nd_set_ne hkx
  obtain ⟨h3, h4⟩ := lk_skx (N := N.set k (merged N i k b)) (x := x) (o := o) (b := b) (by rw [ex]; exact hxr) (by rw [ex]; exact ho) h.nd xs h2
  have hg3 : Hangs (joiN N i k x o b) (skx x b s) t none none := lk_hangs h3 (by rw [show ab (joiN N i k x o b) (skx x b s) = _ from h4]; exact hok)
  have hmv : Moved (shf i o) (joiN N i k x o b) (drp (joiN N i k x o b) i o N.length) (skx x b s) := fun j hj n hn' => by
    have hjl : j < N.length := by have := hg3.lt j hj; rw [joiN_len] at this; exact this
    rw [drp_get hio (fun e' => hiS (by rw [← e']; exact hj)) (fun e' => hoS (by rw [← e']; exact hj)) N.length hjl, nd_of hn']
  have hlen : (skx x b s).pre.length + 2 = N.length := by have := hperm.length_eq; rw [h.all] at this; simp at this; omega
  have hdl : (drp (joiN N i k x o b) i o N.length).length = (skx x b s).pre.length := by
    rw [drp_len hio]
    unfold shf
    rw [if_pos hil, if_pos hol]; omega
  have hle := h.le
  refine ⟨_, o, e, ho, hxr, hil, hk, hxl, hol, hio, fun e' => hiS (by rw [e']; exact hxm), fun e' => hoS (by rw [e']; exact hxm), hkx, hik, hkr, ?_, (skx x b s).map (shf i o), ?_, ?_⟩
  · intro z hz hzr
    have key : ∀ y, y < N.length → (nd N y).r = true → ∃ u v : Nat, (nd N y).a = u ∧ (nd N y).b = v ∧ u < N.length ∧ v < N.length := fun y hy hyr => by
      obtain ⟨u, v, e1, e2, e3, e4⟩ := kids0 h.hg y (h.mem hy) _ (nd_get hy) hyr
      exact ⟨u, v, e1, e2, h.hg.lt u e3, h.hg.lt v e4⟩
    have key2 : ∀ y, y < N.length → (nd (N.set k (merged N i k b)) y).r = true → ∃ u v : Nat, (nd (N.set k (merged N i k b)) y).a = u ∧ (nd (N.set k (merged N i k b)) y).b = v ∧ u < N.length ∧ v < N.length := fun y hy hyr => by
      by_cases e' : k = y
      · subst e'; rw [nd_set hk] at hyr; cases hyr
      · rw [nd_set_ne e'] at hyr ⊢; exact key y hy hyr
    by_cases e' : x = z
    · subst e'
      unfold joiN at hzr ⊢
      rw [nd_set (by rw [List.length_set]; exact hxl)] at hzr ⊢
      exact key2 o hol hzr
    · unfold joiN at hzr ⊢
      rw [nd_set_ne e'] at hzr ⊢
      exact key2 z hz hzr
  · have hh := hangs_map hmv hg3
    rw [skx_top] at hh
    refine ⟨by rw [hdl]; omega, hh, ?_, by rw [Sh.pre_map, List.length_map, hdl]⟩
    rw [Sh.pre_map]
    exact List.pairwise_map.2 (List.Pairwise.imp_of_mem (fun {u v} hu hv hne e' => hne (shf_inj hio (fun e2 => hiS (by rw [← e2]; exact hu)) (fun e2 => hoS (by rw [← e2]; exact hu)) (fun e2 => hiS (by rw [← e2]; exact hv)) (fun e2 => hoS (by rw [← e2]; exact hv)) e')) hndS)
  · rw [lay_moved hmv hg3, lay_ab 0 hg3]
    exact congrArg (fun z => z.lay 0) h4
end Go.Proofs.Ytijepfabkalcoaa

