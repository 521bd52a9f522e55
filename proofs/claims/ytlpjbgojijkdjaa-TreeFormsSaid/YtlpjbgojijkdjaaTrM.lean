/- Plain mathematics of trees of leaves: what hangs where (Hangs), which nodes were come to (mark), a tree that may be (Tr), its plain order (lay), where a key's leaf is (dn). No condition: definitions and lemmas. -/
import Derived.Test.YtlpjbgojijkdjaaPrG
namespace Go.Proofs.Ytlpjbgojijkdjaa
set_option linter.all false

structure Nd where
  r : Bool
  k : Int
  a : Int
  b : Int
  p : List Pr
  s : Int
theorem Nd.ext' {x y : Nd} (h0 : x.r = y.r) (h1 : x.k = y.k) (h2 : x.a = y.a) (h3 : x.b = y.b) (h4 : x.p = y.p) (h5 : x.s = y.s) : x = y := by
  cases x; cases y; simp_all
def Nd.z : Nd := ⟨false, 0, 0, 0, [], 0⟩

/-- The shape of a tree: its places. -/
inductive Sh where
  | lf (i : Nat)
  | rt (i : Nat) (l r : Sh)
def Sh.pre : Sh → List Nat
  | .lf i => [i]
  | .rt i l r => i :: (l.pre ++ r.pre)
def Sh.lvs : Sh → List Nat
  | .lf i => [i]
  | .rt _ l r => l.lvs ++ r.lvs
def Sh.top : Sh → Nat
  | .lf i => i
  | .rt i _ _ => i
theorem Sh.pre_pos (s : Sh) : 0 < s.pre.length := by cases s <;> simp [Sh.pre]
theorem Sh.pre_top (s : Sh) : s.pre[0]? = some s.top := by cases s <;> simp [Sh.pre, Sh.top]
theorem Sh.top_mem (s : Sh) : s.top ∈ s.pre := by cases s <;> simp [Sh.pre, Sh.top]

def inS (lo hi : Option Int) (k : Int) : Prop := (∀ x, lo = some x → x ≤ k) ∧ (∀ y, hi = some y → k < y)
def okL (n : Nd) (lo hi : Option Int) : Prop := n.k = 0 ∧ n.a = 0 ∧ n.b = 0 ∧ -1000000 ≤ n.s ∧ n.s ≤ 1000000 ∧ Srt n.p ∧ ∀ q ∈ n.p, inS lo hi q.1
def okR (n : Nd) (lo hi : Option Int) : Prop := n.p = [] ∧ n.s = 0 ∧ inS lo hi n.k ∧ lo ≠ some n.k

def Hangs (N : List Nd) : Sh → Int → Option Int → Option Int → Prop
  | .lf i, t, lo, hi => t = i ∧ ∃ n, N[i]? = some n ∧ n.r = false ∧ okL n lo hi
  | .rt i l r, t, lo, hi => t = i ∧ ∃ n, N[i]? = some n ∧ n.r = true ∧ okR n lo hi ∧ Hangs N l n.a lo (some n.k) ∧ Hangs N r n.b (some n.k) hi

theorem Hangs.top {N : List Nd} {s : Sh} {t : Int} {lo hi : Option Int} (h : Hangs N s t lo hi) : t = (s.top : Int) := by
  cases s <;> exact h.1
theorem Hangs.get {N : List Nd} {s : Sh} {t : Int} {lo hi : Option Int} (h : Hangs N s t lo hi) : ∃ n, N[s.top]? = some n := by
  cases s with
  | lf i => exact ⟨_, h.2.choose_spec.1⟩
  | rt i l r => exact ⟨_, h.2.choose_spec.1⟩
theorem Hangs.lt {N : List Nd} : ∀ {s : Sh} {t : Int} {lo hi : Option Int}, Hangs N s t lo hi → ∀ i ∈ s.pre, i < N.length := by
  intro s
  induction s with
  | lf i =>
    intro t lo hi h j hj
    obtain ⟨_, n, hn, _⟩ := h
    simp [Sh.pre] at hj
    subst hj
    exact (List.getElem?_eq_some_iff.1 hn).1
  | rt i l r ihl ihr =>
    intro t lo hi h j hj
    obtain ⟨_, n, hn, _, _, hl, hr⟩ := h
    simp [Sh.pre] at hj
    rcases hj with rfl | hj | hj
    · exact (List.getElem?_eq_some_iff.1 hn).1
    · exact ihl hl j hj
    · exact ihr hr j hj

/-- The same fields but for pairs and stats give the same shape. -/
theorem Hangs.one {N M : List Nd} (hM : ∀ (i : Nat) n m, N[i]? = some n → M[i]? = some m → n.r = m.r ∧ (n.r = true → n.a = m.a ∧ n.b = m.b)) : ∀ {s s' : Sh} {t : Int} {lo hi lo' hi' : Option Int}, Hangs N s t lo hi → Hangs M s' t lo' hi' → s = s' := by
  intro s
  induction s with
  | lf i =>
    intro s' t lo hi lo' hi' h h'
    obtain ⟨e, n, hn, hr, _⟩ := h
    cases s' with
    | lf j =>
      obtain ⟨e', _⟩ := h'
      have : i = j := by omega
      rw [this]
    | rt j l r =>
      obtain ⟨e', m, hm, hr', _⟩ := h'
      have : i = j := by omega
      subst this
      have := (hM i n m hn hm).1
      rw [hr, hr'] at this
      cases this
  | rt i l r ihl ihr =>
    intro s' t lo hi lo' hi' h h'
    obtain ⟨e, n, hn, hr, _, hl, hrr⟩ := h
    cases s' with
    | lf j =>
      obtain ⟨e', m, hm, hr', _⟩ := h'
      have : i = j := by omega
      subst this
      have := (hM i n m hn hm).1
      rw [hr, hr'] at this
      cases this
    | rt j l' r' =>
      obtain ⟨e', m, hm, hr', _, hl', hrr'⟩ := h'
      have : i = j := by omega
      subst this
      obtain ⟨ea, eb⟩ := (hM i n m hn hm).2 hr
      rw [← ea] at hl'
      rw [← eb] at hrr'
      rw [ihl hl hl', ihr hrr hrr']
theorem Hangs.uniq {N : List Nd} {s s' : Sh} {t : Int} {lo hi lo' hi' : Option Int} (h : Hangs N s t lo hi) (h' : Hangs N s' t lo' hi') : s = s' :=
  Hangs.one (fun i n m e e' => by rw [e] at e'; cases e'; exact ⟨rfl, fun _ => ⟨rfl, rfl⟩⟩) h h'

/-! ### What was come to -/

def mark (sn : List Bool) (l : List Nat) : List Bool := l.foldl (fun s i => s.set i true) sn
theorem mark_len (l : List Nat) : ∀ sn, (mark sn l).length = sn.length := by
  induction l with
  | nil => intro sn; rfl
  | cons i l ih => intro sn; show (mark (sn.set i true) l).length = _; rw [ih, List.length_set]
theorem mark_app (sn : List Bool) (l l' : List Nat) : mark sn (l ++ l') = mark (mark sn l) l' := List.foldl_append
theorem mark_cons (sn : List Bool) (i : Nat) (l : List Nat) : mark sn (i :: l) = mark (sn.set i true) l := rfl
theorem mark_get (l : List Nat) : ∀ (sn : List Bool) (j : Nat), (mark sn l)[j]? = some false ↔ sn[j]? = some false ∧ j ∉ l := by
  induction l with
  | nil => intro sn j; simp [mark]
  | cons i l ih =>
    intro sn j
    rw [mark_cons, ih, List.getElem?_set]
    by_cases e : i = j
    · subst e
      simp
    · rw [if_neg e, List.mem_cons]
      exact ⟨fun hh => ⟨hh.1, fun h => h.elim (fun ee => e ee.symm) hh.2⟩, fun hh => ⟨hh.1, fun h => hh.2 (.inr h)⟩⟩
def cnt (sn : List Bool) : Nat := sn.count false
theorem cnt_set {sn : List Bool} {i : Nat} (h : sn[i]? = some false) : cnt (sn.set i true) < cnt sn := by
  unfold cnt
  obtain ⟨hi, he⟩ := List.getElem?_eq_some_iff.1 h
  rw [List.count_set hi]
  have : 0 < sn.count false := List.count_pos_iff.2 (by rw [← he]; exact List.getElem_mem hi)
  simp [he]
  omega
theorem cnt_set_le (sn : List Bool) (i : Nat) : cnt (sn.set i true) ≤ cnt sn := by
  by_cases hi : i < sn.length
  · cases he : sn[i] with
    | false => exact Nat.le_of_lt (cnt_set (by rw [List.getElem?_eq_getElem hi, he]))
    | true =>
      rw [show sn.set i true = sn from by rw [← he]; exact List.set_getElem_self hi]
      exact Nat.le_refl _
  · rw [List.set_eq_of_length_le (by omega)]; exact Nat.le_refl _
theorem cnt_mark (l : List Nat) : ∀ sn, cnt (mark sn l) ≤ cnt sn := by
  induction l with
  | nil => intro sn; exact Nat.le_refl _
  | cons i l ih => intro sn; rw [mark_cons]; exact Nat.le_trans (ih _) (cnt_set_le _ _)

def Fresh (sn : List Bool) (s : Sh) : Prop := s.pre.Nodup ∧ ∀ i ∈ s.pre, sn[i]? = some false
/-- What hangs at t is a part of a tree, none of which was come to. -/
def Part (N : List Nd) (sn : List Bool) (t : Int) (lo hi : Option Int) (s : Sh) : Prop := Hangs N s t lo hi ∧ Fresh sn s

section
variable {N : List Nd} {sn : List Bool} {t : Int} {lo hi : Option Int} {i : Nat} {n : Nd}
theorem part_out (h : ¬ (0 ≤ t ∧ t < (N.length : Int))) (s : Sh) : ¬ Part N sn t lo hi s := fun ⟨hh, _⟩ => by
  have h1 := hh.top
  have h2 := hh.lt _ s.top_mem
  omega
theorem part_seen (ht : t = (i : Int)) (h : sn[i]? = some true) (s : Sh) : ¬ Part N sn t lo hi s := fun ⟨hh, hf⟩ => by
  have h1 := hh.top
  have : s.top = i := by omega
  have := hf.2 _ s.top_mem
  simp_all
theorem part_lf (ht : t = (i : Int)) (hn : N[i]? = some n) (hr : n.r = false) (hs : sn[i]? = some false) (h : okL n lo hi) : Part N sn t lo hi (.lf i) :=
  ⟨⟨ht, n, hn, hr, h⟩, by simp [Sh.pre], fun j hj => by simp [Sh.pre] at hj; rw [hj]; exact hs⟩
theorem part_lf_no (ht : t = (i : Int)) (hn : N[i]? = some n) (hr : n.r = false) (h : ¬ okL n lo hi) (s : Sh) : ¬ Part N sn t lo hi s := fun ⟨hh, _⟩ => by
  cases s with
  | lf j =>
    obtain ⟨e, m, hm, _, hk⟩ := hh
    have : i = j := by omega
    subst this
    rw [hn] at hm; cases hm
    exact h hk
  | rt j l r =>
    obtain ⟨e, m, hm, hr', _⟩ := hh
    have : i = j := by omega
    subst this
    rw [hn] at hm; cases hm
    rw [hr] at hr'; cases hr'
/-- A route's parts. -/
theorem part_rt (ht : t = (i : Int)) (hn : N[i]? = some n) (hr : n.r = true) (hs : sn[i]? = some false) (h : okR n lo hi) {l r : Sh}
    (hl : Part N (sn.set i true) n.a lo (some n.k) l) (hrr : Part N (mark (sn.set i true) l.pre) n.b (some n.k) hi r) : Part N sn t lo hi (.rt i l r) := by
  refine ⟨⟨ht, n, hn, hr, h, hl.1, hrr.1⟩, ?_, ?_⟩
  · have il : i ∉ l.pre := fun hi' => by
      have := hl.2.2 i hi'
      rw [List.getElem?_set_self' ] at this
      rw [hs] at this
      cases this
    have ir : ∀ j ∈ r.pre, (sn.set i true)[j]? = some false ∧ j ∉ l.pre := fun j hj => (mark_get _ _ _).1 (hrr.2.2 j hj)
    have ii : i ∉ r.pre := fun hi' => by
      have := (ir i hi').1
      rw [List.getElem?_set_self'] at this
      rw [hs] at this
      cases this
    simp only [Sh.pre, List.nodup_cons, List.mem_append, List.nodup_append]
    exact ⟨fun hh => hh.elim il ii, hl.2.1, hrr.2.1, fun a ha b hb e => (ir b hb).2 (e ▸ ha)⟩
  · intro j hj
    have back : ∀ j, (sn.set i true)[j]? = some false → sn[j]? = some false := fun j h' => by
      rw [List.getElem?_set] at h'
      split at h'
      · split at h' <;> simp at h'
      · exact h'
    simp [Sh.pre] at hj
    rcases hj with rfl | hj | hj
    · exact hs
    · exact back j (hl.2.2 j hj)
    · exact back j ((mark_get _ _ _).1 (hrr.2.2 j hj)).1
theorem part_rt_no (ht : t = (i : Int)) (hn : N[i]? = some n) (hr : n.r = true) (h : ¬ okR n lo hi) (s : Sh) : ¬ Part N sn t lo hi s := fun ⟨hh, _⟩ => by
  cases s with
  | lf j =>
    obtain ⟨e, m, hm, hr', _⟩ := hh
    have : i = j := by omega
    subst this
    rw [hn] at hm; cases hm
    rw [hr] at hr'; cases hr'
  | rt j l r =>
    obtain ⟨e, m, hm, _, hk, _⟩ := hh
    have : i = j := by omega
    subst this
    rw [hn] at hm; cases hm
    exact h hk
theorem part_parts {s : Sh} (ht : t = (i : Int)) (hn : N[i]? = some n) (hr : n.r = true) (hp : Part N sn t lo hi s) :
    ∃ l r, Part N (sn.set i true) n.a lo (some n.k) l ∧ Part N (mark (sn.set i true) l.pre) n.b (some n.k) hi r := by
  obtain ⟨hh, hf⟩ := hp
  cases s with
  | lf j =>
    obtain ⟨e, m, hm, hr', _⟩ := hh
    have : i = j := by omega
    subst this
    rw [hn] at hm; cases hm
    rw [hr] at hr'; cases hr'
  | rt j l r =>
    obtain ⟨e, m, hm, _, hk, hl, hrr⟩ := hh
    have : i = j := by omega
    subst this
    rw [hn] at hm; cases hm
    obtain ⟨hnd, hun⟩ := hf
    simp only [Sh.pre, List.nodup_cons, List.mem_append, List.nodup_append] at hnd
    obtain ⟨h1, h2, h3, h4⟩ := hnd
    have un : ∀ j, j ≠ i → sn[j]? = some false → (sn.set i true)[j]? = some false := fun j hj h' => by
      rw [List.getElem?_set, if_neg (fun e => hj e.symm)]
      exact h'
    refine ⟨l, r, ⟨hl, h2, fun j hj => un j (fun e => h1 (.inl (e ▸ hj))) (hun j (by simp [Sh.pre, hj]))⟩, hrr, h3, fun j hj => ?_⟩
    refine (mark_get _ _ _).2 ⟨un j (fun e => h1 (.inr (e ▸ hj))) (hun j (by simp [Sh.pre, hj])), fun hj' => h4 j hj' j hj rfl⟩
theorem part_left_no (ht : t = (i : Int)) (hn : N[i]? = some n) (hr : n.r = true) (h : ∀ l, ¬ Part N (sn.set i true) n.a lo (some n.k) l) (s : Sh) : ¬ Part N sn t lo hi s := fun hp => by
  obtain ⟨l, r, hl, _⟩ := part_parts ht hn hr hp
  exact h l hl
theorem part_right_no (ht : t = (i : Int)) (hn : N[i]? = some n) (hr : n.r = true) {l : Sh} (hl : Part N (sn.set i true) n.a lo (some n.k) l) (h : ∀ r, ¬ Part N (mark (sn.set i true) l.pre) n.b (some n.k) hi r) (s : Sh) : ¬ Part N sn t lo hi s := fun hp => by
  obtain ⟨l', r, hl', hr'⟩ := part_parts ht hn hr hp
  rw [hl'.1.uniq hl.1] at hr'
  exact h r hr'
end

/-! ### A tree that may be -/

structure Tr (N : List Nd) (s : Sh) (t : Int) : Prop where
  le : N.length ≤ 2000
  hg : Hangs N s t none none
  nd : s.pre.Nodup
  all : s.pre.length = N.length

theorem sub_len : ∀ {l m : List Nat}, l.Nodup → (∀ x ∈ l, x ∈ m) → l.length ≤ m.length := by
  intro l
  induction l with
  | nil => intro m _ _; exact Nat.zero_le _
  | cons x l ih =>
    intro m hn hs
    have hx := hs x List.mem_cons_self
    have h1 := ih (m := m.erase x) (List.nodup_cons.1 hn).2 (fun y hy => (List.mem_erase_of_ne (fun e : y = x => (List.nodup_cons.1 hn).1 (by rw [← e]; exact hy))).2 (hs y (List.mem_cons_of_mem _ hy)))
    rw [List.length_erase_of_mem hx] at h1
    have := List.length_pos_of_mem hx
    simp only [List.length_cons]
    omega
theorem sub_perm : ∀ {l m : List Nat}, l.Nodup → (∀ x ∈ l, x ∈ m) → m.length ≤ l.length → l.Perm m := by
  intro l
  induction l with
  | nil => intro m _ _ h; rw [List.length_eq_zero_iff.1 (Nat.le_zero.1 h)]
  | cons x l ih =>
    intro m hn hs h
    have hx := hs x List.mem_cons_self
    have h1 := ih (m := m.erase x) (List.nodup_cons.1 hn).2 (fun y hy => (List.mem_erase_of_ne (fun e : y = x => (List.nodup_cons.1 hn).1 (by rw [← e]; exact hy))).2 (hs y (List.mem_cons_of_mem _ hy))) (by
      rw [List.length_erase_of_mem hx]; simp only [List.length_cons] at h; omega)
    exact (h1.cons x).trans (List.perm_cons_erase hx).symm
theorem nodup_all {l : List Nat} {n : Nat} (h : l.Nodup) (hl : ∀ i ∈ l, i < n) (he : l.length = n) : ∀ i, i < n → i ∈ l := by
  have hp : l.Perm (List.range n) := sub_perm h (fun i hi => List.mem_range.2 (hl i hi)) (by simp [he])
  intro i hi
  exact hp.mem_iff.2 (List.mem_range.2 hi)
theorem Tr.perm {N : List Nd} {s : Sh} {t : Int} (h : Tr N s t) : s.pre.Perm (List.range N.length) :=
  sub_perm h.nd (fun i hi => List.mem_range.2 (h.hg.lt i hi)) (by simp [h.all])
theorem Tr.mem {N : List Nd} {s : Sh} {t : Int} (h : Tr N s t) {i : Nat} (hi : i < N.length) : i ∈ s.pre := h.perm.mem_iff.2 (List.mem_range.2 hi)
theorem Tr.uniq {N : List Nd} {s s' : Sh} {t : Int} (h : Tr N s t) (h' : Tr N s' t) : s = s' := h.hg.uniq h'.hg
theorem tr_part {N : List Nd} {s : Sh} {t : Int} (h : Tr N s t) : Part N (List.replicate N.length false) t none none s :=
  ⟨h.hg, h.nd, fun i hi => by rw [List.getElem?_replicate, if_pos (h.hg.lt i hi)]⟩
/-- All nodes were come to. -/
theorem part_tr {N : List Nd} {s : Sh} {t : Int} (hle : N.length ≤ 2000) (h : Part N (List.replicate N.length false) t none none s) : Tr N s t ↔ s.pre.length = N.length :=
  ⟨fun k => k.all, fun k => ⟨hle, h.1, h.2.1, k⟩⟩
theorem part_seen_all {N : List Nd} {s : Sh} {t : Int} (hle : N.length ≤ 2000) (h : Part N (List.replicate N.length false) t none none s) :
    Tr N s t ↔ false ∉ mark (List.replicate N.length false) s.pre := by
  rw [part_tr hle h]
  constructor
  · intro k hm
    obtain ⟨j, hj⟩ := List.getElem?_of_mem hm
    obtain ⟨h1, h2⟩ := (mark_get _ _ _).1 hj
    have hjl := (List.getElem?_eq_some_iff.1 h1).1
    rw [List.length_replicate] at hjl
    exact h2 (nodup_all h.2.1 h.1.lt k j hjl)
  · intro hm
    have h1 : (List.range N.length).length ≤ s.pre.length := sub_len List.nodup_range (fun j hj => by
      rcases Classical.em (j ∈ s.pre) with h' | h'
      · exact h'
      · refine absurd (List.mem_of_getElem? ((mark_get s.pre (List.replicate N.length false) j).2 ⟨?_, h'⟩)) hm
        rw [List.getElem?_replicate, if_pos (List.mem_range.1 hj)])
    have h2 := sub_len (m := List.range N.length) h.2.1 (fun i hi => List.mem_range.2 (h.1.lt i hi))
    simp at h1 h2
    omega
end Go.Proofs.Ytlpjbgojijkdjaa
