/- Plain mathematics of trees of leaves: what hangs where (Hangs), which nodes were come to (mark), a tree that may be (Tr), its plain order (lay), where a key's leaf is (dn). No condition: definitions and lemmas. Plain mathematics of trees of leaves, on: the plain order, other places, all pairs, the way down, a leaf anew, sums. No condition: definitions and lemmas. Plain mathematics of trees without places: what a tree says (AT), its plain order, what may be; a leaf split, a leaf joined to its neighbour. No condition: definitions and lemmas. Plain mathematics of trees of leaves: a leaf joined to its neighbour, which leaf that is, which route is above. No condition: definitions and lemmas. Plain mathematics of trees of leaves: a join as the document's own way lays it out, a split as it lays it out. No condition: definitions and lemmas. Plain mathematics of trees of leaves: what is split and joined again; how many pairs a node may hold. No condition: definitions and lemmas. What Split, Join and Next answer. No condition: definitions and lemmas. -/
import Derived.Test.YtijepfabkalcoaaPrG
namespace Go.Proofs.Ytijepfabkalcoaa
set_option linter.all false

structure Nd where
  r : Bool
  k : Int
  a : Int
  b : Int
  p : List Pr
  s : Int
theorem Nd.ext' {x y : Nd} (h0 : x.r = y.r) (h1 : x.k = y.k) (h2 : x.a = y.a) (h3 : x.b = y.b) (h4 : x.p = y.p) (h5 : x.s = y.s) : x = y := by
  cases x; cases y; simp_all
def Nd.z : Nd := ⟨false, 0, 0, 0, [], 0⟩

/-- The shape of a tree: its places. -/
inductive Sh where
  | lf (i : Nat)
  | rt (i : Nat) (l r : Sh)
def Sh.pre : Sh → List Nat
  | .lf i => [i]
  | .rt i l r => i :: (l.pre ++ r.pre)
def Sh.lvs : Sh → List Nat
  | .lf i => [i]
  | .rt _ l r => l.lvs ++ r.lvs
def Sh.top : Sh → Nat
  | .lf i => i
  | .rt i _ _ => i
theorem Sh.pre_pos (s : Sh) : 0 < s.pre.length := by cases s <;> simp [Sh.pre]
theorem Sh.pre_top (s : Sh) : s.pre[0]? = some s.top := by cases s <;> simp [Sh.pre, Sh.top]
theorem Sh.top_mem (s : Sh) : s.top ∈ s.pre := by cases s <;> simp [Sh.pre, Sh.top]

def inS (lo hi : Option Int) (k : Int) : Prop := (∀ x, lo = some x → x ≤ k) ∧ (∀ y, hi = some y → k < y)
def okL (n : Nd) (lo hi : Option Int) : Prop := n.k = 0 ∧ n.a = 0 ∧ n.b = 0 ∧ -1000000 ≤ n.s ∧ n.s ≤ 1000000 ∧ Srt n.p ∧ ∀ q ∈ n.p, inS lo hi q.1
def okR (n : Nd) (lo hi : Option Int) : Prop := n.p = [] ∧ n.s = 0 ∧ inS lo hi n.k ∧ lo ≠ some n.k

def Hangs (N : List Nd) : Sh → Int → Option Int → Option Int → Prop
  | .lf i, t, lo, hi => t = i ∧ ∃ n, N[i]? = some n ∧ n.r = false ∧ okL n lo hi
  | .rt i l r, t, lo, hi => t = i ∧ ∃ n, N[i]? = some n ∧ n.r = true ∧ okR n lo hi ∧ Hangs N l n.a lo (some n.k) ∧ Hangs N r n.b (some n.k) hi

theorem Hangs.top {N : List Nd} {s : Sh} {t : Int} {lo hi : Option Int} (h : Hangs N s t lo hi) : t = (s.top : Int) := by
  cases s <;> exact h.1
theorem Hangs.get {N : List Nd} {s : Sh} {t : Int} {lo hi : Option Int} (h : Hangs N s t lo hi) : ∃ n, N[s.top]? = some n := by
  cases s with
  | lf i => exact ⟨_, h.2.choose_spec.1⟩
  | rt i l r => exact ⟨_, h.2.choose_spec.1⟩
theorem Hangs.lt {N : List Nd} : ∀ {s : Sh} {t : Int} {lo hi : Option Int}, Hangs N s t lo hi → ∀ i ∈ s.pre, i < N.length := by
  intro s
  induction s with
  | lf i =>
    intro t lo hi h j hj
    obtain ⟨_, n, hn, _⟩ := h
    simp [Sh.pre] at hj
    subst hj
    exact (List.getElem?_eq_some_iff.1 hn).1
  | rt i l r ihl ihr =>
    intro t lo hi h j hj
    obtain ⟨_, n, hn, _, _, hl, hr⟩ := h
    simp [Sh.pre] at hj
    rcases hj with rfl | hj | hj
    · exact (List.getElem?_eq_some_iff.1 hn).1
    · exact ihl hl j hj
    · exact ihr hr j hj

/-- The same fields but for pairs and stats give the same shape. -/
theorem Hangs.one {N M : List Nd} (hM : ∀ (i : Nat) n m, N[i]? = some n → M[i]? = some m → n.r = m.r ∧ (n.r = true → n.a = m.a ∧ n.b = m.b)) : ∀ {s s' : Sh} {t : Int} {lo hi lo' hi' : Option Int}, Hangs N s t lo hi → Hangs M s' t lo' hi' → s = s' := by
  intro s
  induction s with
  | lf i =>
    intro s' t lo hi lo' hi' h h'
    obtain ⟨e, n, hn, hr, _⟩ := h
    cases s' with
    | lf j =>
      obtain ⟨e', _⟩ := h'
      have : i = j := by omega
      rw [this]
    | rt j l r =>
      obtain ⟨e', m, hm, hr', _⟩ := h'
      have : i = j := by omega
      subst this
      have := (hM i n m hn hm).1
      rw [hr, hr'] at this
      cases this
  | rt i l r ihl ihr =>
    intro s' t lo hi lo' hi' h h'
    obtain ⟨e, n, hn, hr, _, hl, hrr⟩ := h
    cases s' with
    | lf j =>
      obtain ⟨e', m, hm, hr', _⟩ := h'
      have : i = j := by omega
      subst this
      have := (hM i n m hn hm).1
      rw [hr, hr'] at this
      cases this
    | rt j l' r' =>
      obtain ⟨e', m, hm, hr', _, hl', hrr'⟩ := h'
      have : i = j := by omega
      subst this
      obtain ⟨ea, eb⟩ := (hM i n m hn hm).2 hr
      rw [← ea] at hl'
      rw [← eb] at hrr'
      rw [ihl hl hl', ihr hrr hrr']
theorem Hangs.uniq {N : List Nd} {s s' : Sh} {t : Int} {lo hi lo' hi' : Option Int} (h : Hangs N s t lo hi) (h' : Hangs N s' t lo' hi') : s = s' :=
  Hangs.one (fun i n m e e' => by rw [e] at e'; cases e'; exact ⟨rfl, fun _ => ⟨rfl, rfl⟩⟩) h h'

/-! ### What was come to -/

def mark (sn : List Bool) (l : List Nat) : List Bool := l.foldl (fun s i => s.set i true) sn
theorem mark_len (l : List Nat) : ∀ sn, (mark sn l).length = sn.length := by
  induction l with
  | nil => intro sn; rfl
  | cons i l ih => intro sn; show (mark (sn.set i true) l).length = _; rw [ih, List.length_set]
theorem mark_app (sn : List Bool) (l l' : List Nat) : mark sn (l ++ l') = mark (mark sn l) l' := List.foldl_append
theorem mark_cons (sn : List Bool) (i : Nat) (l : List Nat) : mark sn (i :: l) = mark (sn.set i true) l := rfl
theorem mark_get (l : List Nat) : ∀ (sn : List Bool) (j : Nat), (mark sn l)[j]? = some false ↔ sn[j]? = some false ∧ j ∉ l := by
  induction l with
  | nil => intro sn j; simp [mark]
  | cons i l ih =>
    intro sn j
    rw [mark_cons, ih, List.getElem?_set]
    by_cases e : i = j
    · subst e
      simp
    · rw [if_neg e, List.mem_cons]
      exact ⟨fun hh => ⟨hh.1, fun h => h.elim (fun ee => e ee.symm) hh.2⟩, fun hh => ⟨hh.1, fun h => hh.2 (.inr h)⟩⟩
def cnt (sn : List Bool) : Nat := sn.count false
theorem cnt_set {sn : List Bool} {i : Nat} (h : sn[i]? = some false) : cnt (sn.set i true) < cnt sn := by
  unfold cnt
  obtain ⟨hi, he⟩ := List.getElem?_eq_some_iff.1 h
  rw [List.count_set hi]
  have : 0 < sn.count false := List.count_pos_iff.2 (by rw [← he]; exact List.getElem_mem hi)
  simp [he]
  omega
theorem cnt_set_le (sn : List Bool) (i : Nat) : cnt (sn.set i true) ≤ cnt sn := by
  by_cases hi : i < sn.length
  · cases he : sn[i] with
    | false => exact Nat.le_of_lt (cnt_set (by rw [List.getElem?_eq_getElem hi, he]))
    | true =>
      rw [show sn.set i true = sn from by rw [← he]; exact List.set_getElem_self hi]
      exact Nat.le_refl _
  · rw [List.set_eq_of_length_le (by omega)]; exact Nat.le_refl _
theorem cnt_mark (l : List Nat) : ∀ sn, cnt (mark sn l) ≤ cnt sn := by
  induction l with
  | nil => intro sn; exact Nat.le_refl _
  | cons i l ih => intro sn; rw [mark_cons]; exact Nat.le_trans (ih _) (cnt_set_le _ _)

def Fresh (sn : List Bool) (s : Sh) : Prop := s.pre.Nodup ∧ ∀ i ∈ s.pre, sn[i]? = some false
/-- What hangs at t is a part of a tree, none of which was come to. -/
def Part (N : List Nd) (sn : List Bool) (t : Int) (lo hi : Option Int) (s : Sh) : Prop := Hangs N s t lo hi ∧ Fresh sn s

section
variable {N : List Nd} {sn : List Bool} {t : Int} {lo hi : Option Int} {i : Nat} {n : Nd}
theorem part_out (h : ¬ (0 ≤ t ∧ t < (N.length : Int))) (s : Sh) : ¬ Part N sn t lo hi s := fun ⟨hh, _⟩ => by
  have h1 := hh.top
  have h2 := hh.lt _ s.top_mem
  omega
theorem part_seen (ht : t = (i : Int)) (h : sn[i]? = some true) (s : Sh) : ¬ Part N sn t lo hi s := fun ⟨hh, hf⟩ => by
  have h1 := hh.top
  have : s.top = i := by omega
  have := hf.2 _ s.top_mem
  simp_all
theorem part_lf (ht : t = (i : Int)) (hn : N[i]? = some n) (hr : n.r = false) (hs : sn[i]? = some false) (h : okL n lo hi) : Part N sn t lo hi (.lf i) :=
  ⟨⟨ht, n, hn, hr, h⟩, by simp [Sh.pre], fun j hj => by simp [Sh.pre] at hj; rw [hj]; exact hs⟩
theorem part_lf_no (ht : t = (i : Int)) (hn : N[i]? = some n) (hr : n.r = false) (h : ¬ okL n lo hi) (s : Sh) : ¬ Part N sn t lo hi s := fun ⟨hh, _⟩ => by
  cases s with
  | lf j =>
    obtain ⟨e, m, hm, _, hk⟩ := hh
    have : i = j := by omega
    subst this
    rw [hn] at hm; cases hm
    exact h hk
  | rt j l r =>
    obtain ⟨e, m, hm, hr', _⟩ := hh
    have : i = j := by omega
    subst this
    rw [hn] at hm; cases hm
    rw [hr] at hr'; cases hr'
/-- A route's parts. -/
theorem part_rt (ht : t = (i : Int)) (hn : N[i]? = some n) (hr : n.r = true) (hs : sn[i]? = some false) (h : okR n lo hi) {l r : Sh}
    (hl : Part N (sn.set i true) n.a lo (some n.k) l) (hrr : Part N (mark (sn.set i true) l.pre) n.b (some n.k) hi r) : Part N sn t lo hi (.rt i l r) := by
  refine ⟨⟨ht, n, hn, hr, h, hl.1, hrr.1⟩, ?_, ?_⟩
  · have il : i ∉ l.pre := fun hi' => by
      have := hl.2.2 i hi'
      rw [List.getElem?_set_self' ] at this
      rw [hs] at this
      cases this
    have ir : ∀ j ∈ r.pre, (sn.set i true)[j]? = some false ∧ j ∉ l.pre := fun j hj => (mark_get _ _ _).1 (hrr.2.2 j hj)
    have ii : i ∉ r.pre := fun hi' => by
      have := (ir i hi').1
      rw [List.getElem?_set_self'] at this
      rw [hs] at this
      cases this
    simp only [Sh.pre, List.nodup_cons, List.mem_append, List.nodup_append]
    exact ⟨fun hh => hh.elim il ii, hl.2.1, hrr.2.1, fun a ha b hb e => (ir b hb).2 (e ▸ ha)⟩
  · intro j hj
    have back : ∀ j, (sn.set i true)[j]? = some false → sn[j]? = some false := fun j h' => by
      rw [List.getElem?_set] at h'
      split at h'
      · split at h' <;> simp at h'
      · exact h'
    simp [Sh.pre] at hj
    rcases hj with rfl | hj | hj
    · exact hs
    · exact back j (hl.2.2 j hj)
    · exact back j ((mark_get _ _ _).1 (hrr.2.2 j hj)).1
theorem part_rt_no (ht : t = (i : Int)) (hn : N[i]? = some n) (hr : n.r = true) (h : ¬ okR n lo hi) (s : Sh) : ¬ Part N sn t lo hi s := fun ⟨hh, _⟩ => by
  cases s with
  | lf j =>
    obtain ⟨e, m, hm, hr', _⟩ := hh
    have : i = j := by omega
    subst this
    rw [hn] at hm; cases hm
    rw [hr] at hr'; cases hr'
  | rt j l r =>
    obtain ⟨e, m, hm, _, hk, _⟩ := hh
    have : i = j := by omega
    subst this
    rw [hn] at hm; cases hm
    exact h hk
theorem part_parts {s : Sh} (ht : t = (i : Int)) (hn : N[i]? = some n) (hr : n.r = true) (hp : Part N sn t lo hi s) :
    ∃ l r, Part N (sn.set i true) n.a lo (some n.k) l ∧ Part N (mark (sn.set i true) l.pre) n.b (some n.k) hi r := by
  obtain ⟨hh, hf⟩ := hp
  cases s with
  | lf j =>
    obtain ⟨e, m, hm, hr', _⟩ := hh
    have : i = j := by omega
    subst this
    rw [hn] at hm; cases hm
    rw [hr] at hr'; cases hr'
  | rt j l r =>
    obtain ⟨e, m, hm, _, hk, hl, hrr⟩ := hh
    have : i = j := by omega
    subst this
    rw [hn] at hm; cases hm
    obtain ⟨hnd, hun⟩ := hf
    simp only [Sh.pre, List.nodup_cons, List.mem_append, List.nodup_append] at hnd
    obtain ⟨h1, h2, h3, h4⟩ := hnd
    have un : ∀ j, j ≠ i → sn[j]? = some false → (sn.set i true)[j]? = some false := fun j hj h' => by
      rw [List.getElem?_set, if_neg (fun e => hj e.symm)]
      exact h'
    refine ⟨l, r, ⟨hl, h2, fun j hj => un j (fun e => h1 (.inl (e ▸ hj))) (hun j (by simp [Sh.pre, hj]))⟩, hrr, h3, fun j hj => ?_⟩
    refine (mark_get _ _ _).2 ⟨un j (fun e => h1 (.inr (e ▸ hj))) (hun j (by simp [Sh.pre, hj])), fun hj' => h4 j hj' j hj rfl⟩
theorem part_left_no (ht : t = (i : Int)) (hn : N[i]? = some n) (hr : n.r = true) (h : ∀ l, ¬ Part N (sn.set i true) n.a lo (some n.k) l) (s : Sh) : ¬ Part N sn t lo hi s := fun hp => by
  obtain ⟨l, r, hl, _⟩ := part_parts ht hn hr hp
  exact h l hl
theorem part_right_no (ht : t = (i : Int)) (hn : N[i]? = some n) (hr : n.r = true) {l : Sh} (hl : Part N (sn.set i true) n.a lo (some n.k) l) (h : ∀ r, ¬ Part N (mark (sn.set i true) l.pre) n.b (some n.k) hi r) (s : Sh) : ¬ Part N sn t lo hi s := fun hp => by
  obtain ⟨l', r, hl', hr'⟩ := part_parts ht hn hr hp
  rw [hl'.1.uniq hl.1] at hr'
  exact h r hr'
end

/-! ### A tree that may be -/

structure Tr (N : List Nd) (s : Sh) (t : Int) : Prop where
  le : N.length ≤ 2000
  hg : Hangs N s t none none
  nd : s.pre.Nodup
  all : s.pre.length = N.length

theorem sub_len : ∀ {l m : List Nat}, l.Nodup → (∀ x ∈ l, x ∈ m) → l.length ≤ m.length := by
  intro l
  induction l with
  | nil => intro m _ _; exact Nat.zero_le _
  | cons x l ih =>
    intro m hn hs
    have hx := hs x List.mem_cons_self
    have h1 := ih (m := m.erase x) (List.nodup_cons.1 hn).2 (fun y hy => (List.mem_erase_of_ne (fun e : y = x => (List.nodup_cons.1 hn).1 (by rw [← e]; exact hy))).2 (hs y (List.mem_cons_of_mem _ hy)))
    rw [List.length_erase_of_mem hx] at h1
    have := List.length_pos_of_mem hx
    simp only [List.length_cons]
    omega
theorem sub_perm : ∀ {l m : List Nat}, l.Nodup → (∀ x ∈ l, x ∈ m) → m.length ≤ l.length → l.Perm m := by
  intro l
  induction l with
  | nil => intro m _ _ h; rw [List.length_eq_zero_iff.1 (Nat.le_zero.1 h)]
  | cons x l ih =>
    intro m hn hs h
    have hx := hs x List.mem_cons_self
    have h1 := ih (m := m.erase x) (List.nodup_cons.1 hn).2 (fun y hy => (List.mem_erase_of_ne (fun e : y = x => (List.nodup_cons.1 hn).1 (by rw [← e]; exact hy))).2 (hs y (List.mem_cons_of_mem _ hy))) (by
      rw [List.length_erase_of_mem hx]; simp only [List.length_cons] at h; omega)
    exact (h1.cons x).trans (List.perm_cons_erase hx).symm
theorem nodup_all {l : List Nat} {n : Nat} (h : l.Nodup) (hl : ∀ i ∈ l, i < n) (he : l.length = n) : ∀ i, i < n → i ∈ l := by
  have hp : l.Perm (List.range n) := sub_perm h (fun i hi => List.mem_range.2 (hl i hi)) (by simp [he])
  intro i hi
  exact hp.mem_iff.2 (List.mem_range.2 hi)
theorem Tr.perm {N : List Nd} {s : Sh} {t : Int} (h : Tr N s t) : s.pre.Perm (List.range N.length) :=
  sub_perm h.nd (fun i hi => List.mem_range.2 (h.hg.lt i hi)) (by simp [h.all])
theorem Tr.mem {N : List Nd} {s : Sh} {t : Int} (h : Tr N s t) {i : Nat} (hi : i < N.length) : i ∈ s.pre := h.perm.mem_iff.2 (List.mem_range.2 hi)
theorem Tr.uniq {N : List Nd} {s s' : Sh} {t : Int} (h : Tr N s t) (h' : Tr N s' t) : s = s' := h.hg.uniq h'.hg
theorem tr_part {N : List Nd} {s : Sh} {t : Int} (h : Tr N s t) : Part N (List.replicate N.length false) t none none s :=
  ⟨h.hg, h.nd, fun i hi => by rw [List.getElem?_replicate, if_pos (h.hg.lt i hi)]⟩
/-- All nodes were come to. -/
theorem part_tr {N : List Nd} {s : Sh} {t : Int} (hle : N.length ≤ 2000) (h : Part N (List.replicate N.length false) t none none s) : Tr N s t ↔ s.pre.length = N.length :=
  ⟨fun k => k.all, fun k => ⟨hle, h.1, h.2.1, k⟩⟩
theorem part_seen_all {N : List Nd} {s : Sh} {t : Int} (hle : N.length ≤ 2000) (h : Part N (List.replicate N.length false) t none none s) :
    Tr N s t ↔ false ∉ mark (List.replicate N.length false) s.pre := by
  rw [part_tr hle h]
  constructor
  · intro k hm
    obtain ⟨j, hj⟩ := List.getElem?_of_mem hm
    obtain ⟨h1, h2⟩ := (mark_get _ _ _).1 hj
    have hjl := (List.getElem?_eq_some_iff.1 h1).1
    rw [List.length_replicate] at hjl
    exact h2 (nodup_all h.2.1 h.1.lt k j hjl)
  · intro hm
    have h1 : (List.range N.length).length ≤ s.pre.length := sub_len List.nodup_range (fun j hj => by
      rcases Classical.em (j ∈ s.pre) with h' | h'
      · exact h'
      · refine absurd (List.mem_of_getElem? ((mark_get s.pre (List.replicate N.length false) j).2 ⟨?_, h'⟩)) hm
        rw [List.getElem?_replicate, if_pos (List.mem_range.1 hj)])
    have h2 := sub_len (m := List.range N.length) h.2.1 (fun i hi => List.mem_range.2 (h.1.lt i hi))
    simp at h1 h2
    omega
end Go.Proofs.Ytijepfabkalcoaa

namespace Go.Proofs.Ytijepfabkalcoaa
set_option linter.all false

def nd (N : List Nd) (i : Nat) : Nd := N.getD i Nd.z
theorem nd_of {N : List Nd} {i : Nat} {n : Nd} (h : N[i]? = some n) : nd N i = n := by simp [nd, List.getD, h]
theorem nd_get {N : List Nd} {i : Nat} (h : i < N.length) : N[i]? = some (nd N i) := by simp [nd, List.getD, List.getElem?_eq_getElem h]

/-- The nodes in their order. -/
def lay (N : List Nd) : Sh → Nat → List Nd
  | .lf i, _ => [nd N i]
  | .rt i l r, c => ⟨true, (nd N i).k, ((c + 1 : Nat) : Int), ((c + 1 + l.pre.length : Nat) : Int), [], 0⟩ :: (lay N l (c + 1) ++ lay N r (c + 1 + l.pre.length))
theorem lay_len (N : List Nd) : ∀ (s : Sh) (c : Nat), (lay N s c).length = s.pre.length := by
  intro s
  induction s with
  | lf i => intro c; rfl
  | rt i l r ihl ihr => intro c; simp [lay, Sh.pre, ihl, ihr]

def fixn (f : Nat → Nat) (n : Nd) : Nd := if n.r = true then ⟨true, n.k, (f n.a.toNat : Int), (f n.b.toNat : Int), n.p, n.s⟩ else n
theorem fixn_rt {f : Nat → Nat} {n : Nd} (h : n.r = true) : fixn f n = ⟨true, n.k, (f n.a.toNat : Int), (f n.b.toNat : Int), n.p, n.s⟩ := if_pos h
theorem fixn_lf {f : Nat → Nat} {n : Nd} (h : n.r = false) : fixn f n = n := if_neg (by rw [h]; decide)

theorem lay_map {N : List Nd} {f : Nat → Nat} : ∀ {s : Sh} {t : Int} {lo hi : Option Int} {c : Nat}, Hangs N s t lo hi → (∀ j x, s.pre[j]? = some x → f x = c + j) → lay N s c = s.pre.map (fun i => fixn f (nd N i)) := by
  intro s
  induction s with
  | lf i =>
    intro t lo hi c h hf
    obtain ⟨_, n, hn, hr, _⟩ := h
    simp only [lay, Sh.pre, List.map_cons, List.map_nil]
    rw [nd_of hn, fixn_lf hr]
  | rt i l r ihl ihr =>
    intro t lo hi c h hf
    obtain ⟨_, n, hn, hr, ho, hl, hrr⟩ := h
    have fl : ∀ j x, l.pre[j]? = some x → f x = c + 1 + j := fun j x hx => by
      have := hf (j + 1) x (by
        simp only [Sh.pre, List.getElem?_cons_succ]
        rw [List.getElem?_append_left (List.getElem?_eq_some_iff.1 hx).1]; exact hx)
      omega
    have fr : ∀ j x, r.pre[j]? = some x → f x = c + 1 + l.pre.length + j := fun j x hx => by
      have := hf (l.pre.length + j + 1) x (by
        simp only [Sh.pre, List.getElem?_cons_succ]
        rw [List.getElem?_append_right (by omega)]; rw [Nat.add_sub_cancel_left]; exact hx)
      omega
    have ea := hl.top
    have eb := hrr.top
    have e1 := fl 0 _ l.pre_top
    have e2 := fr 0 _ r.pre_top
    simp only [lay, Sh.pre, List.map_cons, List.map_append]
    rw [ihl hl fl, ihr hrr fr, nd_of hn, fixn_rt hr, ea, eb, ho.1, ho.2.1]
    simp only [Int.toNat_natCast]
    rw [e1, e2]
    rfl
theorem nodup_at {l : List Nat} (h : l.Nodup) {i j x : Nat} (hi : l[i]? = some x) (hj : l[j]? = some x) : i = j := by
  obtain ⟨a, ea⟩ := List.getElem?_eq_some_iff.1 hi
  obtain ⟨b, eb⟩ := List.getElem?_eq_some_iff.1 hj
  exact (List.getElem_inj h).1 (ea.trans eb.symm)

/-! ### Other places -/

def Sh.map (f : Nat → Nat) : Sh → Sh
  | .lf i => .lf (f i)
  | .rt i l r => .rt (f i) (l.map f) (r.map f)
theorem Sh.pre_map (f : Nat → Nat) (s : Sh) : (s.map f).pre = s.pre.map f := by
  induction s with
  | lf i => rfl
  | rt i l r ihl ihr => simp [Sh.map, Sh.pre, ihl, ihr]
/-- M is N at other places. -/
def Moved (f : Nat → Nat) (N M : List Nd) (s : Sh) : Prop := ∀ i ∈ s.pre, ∀ n, N[i]? = some n → M[f i]? = some (fixn f n)
theorem Moved.left {f : Nat → Nat} {N M : List Nd} {i : Nat} {l r : Sh} (h : Moved f N M (.rt i l r)) : Moved f N M l := fun j hj => h j (by simp [Sh.pre, hj])
theorem Moved.right {f : Nat → Nat} {N M : List Nd} {i : Nat} {l r : Sh} (h : Moved f N M (.rt i l r)) : Moved f N M r := fun j hj => h j (by simp [Sh.pre, hj])
theorem hangs_map {f : Nat → Nat} {N M : List Nd} : ∀ {s : Sh} {t : Int} {lo hi : Option Int}, Moved f N M s → Hangs N s t lo hi → Hangs M (s.map f) ((f s.top : Nat) : Int) lo hi := by
  intro s
  induction s with
  | lf i =>
    intro t lo hi hm h
    obtain ⟨_, n, hn, hr, ho⟩ := h
    have := hm i (by simp [Sh.pre]) n hn
    rw [fixn_lf hr] at this
    exact ⟨rfl, n, this, hr, ho⟩
  | rt i l r ihl ihr =>
    intro t lo hi hm h
    obtain ⟨_, n, hn, hr, ho, hl, hrr⟩ := h
    have := hm i (by simp [Sh.pre]) n hn
    rw [fixn_rt hr] at this
    refine ⟨rfl, _, this, rfl, ⟨ho.1, ho.2.1, ho.2.2.1, ho.2.2.2⟩, ?_, ?_⟩
    · have e := hl.top
      dsimp only
      rw [e, Int.toNat_natCast]
      exact ihl hm.left hl
    · have e := hrr.top
      dsimp only
      rw [e, Int.toNat_natCast]
      exact ihr hm.right hrr
theorem lay_moved {f : Nat → Nat} {N M : List Nd} : ∀ {s : Sh} {t : Int} {lo hi : Option Int} {c : Nat}, Moved f N M s → Hangs N s t lo hi → lay M (s.map f) c = lay N s c := by
  intro s
  induction s with
  | lf i =>
    intro t lo hi c hm h
    obtain ⟨_, n, hn, hr, ho⟩ := h
    have := hm i (by simp [Sh.pre]) n hn
    rw [fixn_lf hr] at this
    simp only [lay, Sh.map]
    rw [nd_of hn, nd_of this]
  | rt i l r ihl ihr =>
    intro t lo hi c hm h
    obtain ⟨_, n, hn, hr, ho, hl, hrr⟩ := h
    have := hm i (by simp [Sh.pre]) n hn
    rw [fixn_rt hr] at this
    simp only [lay, Sh.map]
    rw [nd_of hn, nd_of this, ihl hm.left hl, ihr hm.right hrr, Sh.pre_map, List.length_map]

/-! ### All pairs -/

def allP (N : List Nd) (l : List Nat) : List Pr := (l.map (fun i => (nd N i).p)).flatten
theorem allP_app (N : List Nd) (l l' : List Nat) : allP N (l ++ l') = allP N l ++ allP N l' := by simp [allP]
theorem allP_one (N : List Nd) (i : Nat) : allP N [i] = (nd N i).p := by simp [allP]
theorem allP_take {N : List Nd} {l : List Nat} {j i : Nat} (h : l[j]? = some i) : allP N (l.take (j + 1)) = allP N (l.take j) ++ (nd N i).p := by
  have e : l.take (j + 1) = l.take j ++ [i] := by rw [List.take_succ, h]; rfl
  rw [e, allP_app, allP_one]
theorem inS_left {lo hi : Option Int} {k q : Int} (h : inS lo hi k) (hq : inS lo (some k) q) : inS lo hi q :=
  ⟨hq.1, fun y hy => by have := hq.2 k rfl; have := h.2 y hy; omega⟩
theorem inS_right {lo hi : Option Int} {k q : Int} (h : inS lo hi k) (hq : inS (some k) hi q) : inS lo hi q :=
  ⟨fun x hx => by have := hq.1 k rfl; have := h.1 x hx; omega, hq.2⟩
theorem allP_srt {N : List Nd} : ∀ {s : Sh} {t : Int} {lo hi : Option Int}, Hangs N s t lo hi → Srt (allP N s.lvs) ∧ ∀ q ∈ allP N s.lvs, inS lo hi q.1 := by
  intro s
  induction s with
  | lf i =>
    intro t lo hi h
    obtain ⟨_, n, hn, hr, ho⟩ := h
    simp only [Sh.lvs, allP_one]
    rw [nd_of hn]
    exact ⟨ho.2.2.2.2.2.1, ho.2.2.2.2.2.2⟩
  | rt i l r ihl ihr =>
    intro t lo hi h
    obtain ⟨_, n, hn, hr, ho, hl, hrr⟩ := h
    obtain ⟨s1, m1⟩ := ihl hl
    obtain ⟨s2, m2⟩ := ihr hrr
    simp only [Sh.lvs, allP_app]
    refine ⟨?_, fun q hq => ?_⟩
    · unfold Srt
      rw [List.pairwise_append]
      exact ⟨s1, s2, fun a ha b hb => by
        have h1 := (m1 a ha).2 n.k rfl
        have h2 := (m2 b hb).1 n.k rfl
        omega⟩
    · rcases List.mem_append.1 hq with hq | hq
      · exact inS_left ho.2.2.1 (m1 q hq)
      · exact inS_right ho.2.2.1 (m2 q hq)
theorem lvs_pos (s : Sh) : 0 < s.lvs.length := by
  induction s with
  | lf i => simp [Sh.lvs]
  | rt i l r ihl _ => simp [Sh.lvs]; omega
theorem lvs_pre (s : Sh) : ∀ i ∈ s.lvs, i ∈ s.pre := by
  induction s with
  | lf i => intro j hj; exact hj
  | rt i l r ihl ihr =>
    intro j hj
    simp [Sh.lvs] at hj
    simp [Sh.pre]
    rcases hj with hj | hj
    · exact .inr (.inl (ihl j hj))
    · exact .inr (.inr (ihr j hj))
theorem lvs_len (s : Sh) : s.lvs.length ≤ s.pre.length := by
  induction s with
  | lf i => simp [Sh.lvs, Sh.pre]
  | rt i l r ihl ihr => simp [Sh.lvs, Sh.pre]; omega
/-- The leaves are those of the nodes that are no routes. -/
theorem lvs_filter {N : List Nd} : ∀ {s : Sh} {t : Int} {lo hi : Option Int}, Hangs N s t lo hi → s.lvs = s.pre.filter (fun i => !(nd N i).r) := by
  intro s
  induction s with
  | lf i =>
    intro t lo hi h
    obtain ⟨_, n, hn, hr, ho⟩ := h
    simp [Sh.lvs, Sh.pre, nd_of hn, hr]
  | rt i l r ihl ihr =>
    intro t lo hi h
    obtain ⟨_, n, hn, hr, ho, hl, hrr⟩ := h
    simp only [Sh.lvs, Sh.pre]
    rw [List.filter_cons_of_neg (by simp [nd_of hn, hr]), List.filter_append, ← ihl hl, ← ihr hrr]
theorem hangs_leaf {N : List Nd} : ∀ {s : Sh} {t : Int} {lo hi : Option Int}, Hangs N s t lo hi → ∀ i ∈ s.pre, ∃ n lo' hi', N[i]? = some n ∧ (n.r = false → okL n lo' hi') ∧ (n.r = true → okR n lo' hi') := by
  intro s
  induction s with
  | lf i =>
    intro t lo hi h j hj
    obtain ⟨_, n, hn, hr, ho⟩ := h
    simp [Sh.pre] at hj
    subst hj
    exact ⟨n, lo, hi, hn, fun _ => ho, fun h => absurd (hr.symm.trans h) (by decide)⟩
  | rt i l r ihl ihr =>
    intro t lo hi h j hj
    obtain ⟨_, n, hn, hr, ho, hl, hrr⟩ := h
    simp [Sh.pre] at hj
    rcases hj with rfl | hj | hj
    · exact ⟨n, lo, hi, hn, fun h => absurd (hr.symm.trans h) (by decide), fun _ => ho⟩
    · exact ihl hl j hj
    · exact ihr hrr j hj
theorem lf_mem {N : List Nd} {s : Sh} {t : Int} {lo hi : Option Int} (h : Hangs N s t lo hi) {i : Nat} {n : Nd} (hi' : i ∈ s.pre) (hn : N[i]? = some n) (hr : n.r = false) : i ∈ s.lvs := by
  rw [lvs_filter h]
  exact List.mem_filter.2 ⟨hi', by rw [nd_of hn, hr]; rfl⟩

/-! ### The way down -/

structure Dn where
  i : Nat
  u : List Nat
  d : List Bool
def dn (N : List Nd) (k : Int) : Sh → Dn
  | .lf i => ⟨i, [], []⟩
  | .rt i l r => if (nd N i).k ≤ k then ⟨(dn N k r).i, i :: (dn N k r).u, true :: (dn N k r).d⟩ else ⟨(dn N k l).i, i :: (dn N k l).u, false :: (dn N k l).d⟩
theorem dn_lvs (N : List Nd) (k : Int) (s : Sh) : (dn N k s).i ∈ s.lvs := by
  induction s with
  | lf i => simp [dn, Sh.lvs]
  | rt i l r ihl ihr => rw [dn]; split <;> simp [Sh.lvs, ihl, ihr]
theorem dn_ulen (N : List Nd) (k : Int) (s : Sh) : (dn N k s).u.length < s.pre.length := by
  induction s with
  | lf i => simp [dn, Sh.pre]
  | rt i l r ihl ihr => rw [dn]; split <;> simp [Sh.pre] <;> omega
/-- A key may stand in the leaf i. -/
def InLf (N : List Nd) : Sh → Option Int → Option Int → Nat → Int → Prop
  | .lf j, lo, hi, i, k => i = j ∧ inS lo hi k
  | .rt j l r, lo, hi, i, k => InLf N l lo (some (nd N j).k) i k ∨ InLf N r (some (nd N j).k) hi i k
theorem InLf.ins {N : List Nd} : ∀ {s : Sh} {t : Int} {lo hi : Option Int} {i : Nat} {k : Int}, Hangs N s t lo hi → InLf N s lo hi i k → inS lo hi k := by
  intro s
  induction s with
  | lf j => intro t lo hi i k _ h; exact h.2
  | rt j l r ihl ihr =>
    intro t lo hi i k hh h
    obtain ⟨_, n, hn, hr, ho, hl, hrr⟩ := hh
    simp only [InLf, nd_of hn] at h
    rcases h with h | h
    · exact inS_left ho.2.2.1 (ihl hl h)
    · exact inS_right ho.2.2.1 (ihr hrr h)
theorem InLf.mem {N : List Nd} : ∀ {s : Sh} {lo hi : Option Int} {i : Nat} {k : Int}, InLf N s lo hi i k → i ∈ s.lvs := by
  intro s
  induction s with
  | lf j => intro lo hi i k h; simp [Sh.lvs, h.1]
  | rt j l r ihl ihr =>
    intro lo hi i k h
    simp only [Sh.lvs, List.mem_append]
    exact h.imp ihl ihr
theorem inLf_dn {N : List Nd} : ∀ {s : Sh} {t : Int} {lo hi : Option Int} {i : Nat} {k : Int}, Hangs N s t lo hi → inS lo hi k → (InLf N s lo hi i k ↔ i = (dn N k s).i) := by
  intro s
  induction s with
  | lf j => intro t lo hi i k _ h; exact ⟨fun hh => hh.1, fun hh => ⟨hh, h⟩⟩
  | rt j l r ihl ihr =>
    intro t lo hi i k hh h
    obtain ⟨_, n, hn, hr, ho, hl, hrr⟩ := hh
    simp only [InLf, dn, nd_of hn]
    by_cases hk : n.k ≤ k
    · rw [if_pos hk]
      dsimp only
      rw [← ihr hrr ⟨fun x hx => by cases hx; exact hk, h.2⟩]
      exact ⟨fun hx => hx.elim (fun h' => absurd ((h'.ins hl).2 n.k rfl) (by omega)) id, .inr⟩
    · rw [if_neg hk]
      dsimp only
      rw [← ihl hl ⟨h.1, fun x hx => by cases hx; omega⟩]
      exact ⟨fun hx => hx.elim id (fun h' => absurd ((h'.ins hrr).1 n.k rfl) hk), .inl⟩
theorem inS_any (k : Int) : inS none none k := ⟨fun _ h => (by cases h), fun _ h => (by cases h)⟩
theorem inLf_own {N : List Nd} : ∀ {s : Sh} {t : Int} {lo hi : Option Int}, Hangs N s t lo hi → ∀ i ∈ s.lvs, ∀ q ∈ (nd N i).p, InLf N s lo hi i q.1 := by
  intro s
  induction s with
  | lf j =>
    intro t lo hi h i hi' q hq
    obtain ⟨_, n, hn, hr, ho⟩ := h
    simp [Sh.lvs] at hi'
    subst hi'
    rw [nd_of hn] at hq
    exact ⟨rfl, ho.2.2.2.2.2.2 q hq⟩
  | rt j l r ihl ihr =>
    intro t lo hi h i hi' q hq
    obtain ⟨_, n, hn, hr, ho, hl, hrr⟩ := h
    simp only [InLf, nd_of hn]
    simp only [Sh.lvs, List.mem_append] at hi'
    exact hi'.imp (fun h' => ihl hl i h' q hq) (fun h' => ihr hrr i h' q hq)

/-! ### A leaf anew -/

theorem hangs_other {N : List Nd} {i : Nat} {m : Nd} : ∀ {s : Sh} {t : Int} {lo hi : Option Int}, i ∉ s.pre → (Hangs (N.set i m) s t lo hi ↔ Hangs N s t lo hi) := by
  intro s
  induction s with
  | lf j =>
    intro t lo hi hi'
    simp [Sh.pre] at hi'
    simp only [Hangs]
    rw [List.getElem?_set_ne (by omega)]
  | rt j l r ihl ihr =>
    intro t lo hi hi'
    simp [Sh.pre] at hi'
    obtain ⟨h0, h1, h2⟩ := hi'
    simp only [Hangs]
    rw [List.getElem?_set_ne (by omega)]
    constructor
    · rintro ⟨e, n, hn, hr, ho, hl, hrr⟩
      exact ⟨e, n, hn, hr, ho, (ihl h1).1 hl, (ihr h2).1 hrr⟩
    · rintro ⟨e, n, hn, hr, ho, hl, hrr⟩
      exact ⟨e, n, hn, hr, ho, (ihl h1).2 hl, (ihr h2).2 hrr⟩
theorem hangs_set {N : List Nd} {i : Nat} {l : List Pr} {st : Int} (hi : i < N.length) : ∀ {s : Sh} {t : Int} {lo hi : Option Int}, Hangs N s t lo hi → s.pre.Nodup → i ∈ s.lvs →
    (Hangs (N.set i ⟨false, 0, 0, 0, l, st⟩) s t lo hi ↔ (-1000000 ≤ st ∧ st ≤ 1000000 ∧ Srt l ∧ ∀ q ∈ l, InLf N s lo hi i q.1)) := by
  intro s
  induction s with
  | lf j =>
    intro t lo hi' h _ hm
    obtain ⟨e, n, hn, hr, ho⟩ := h
    simp [Sh.lvs] at hm
    subst hm
    simp only [Hangs, List.getElem?_set_self hi, InLf]
    constructor
    · rintro ⟨_, m, hm, _, ho'⟩
      cases hm
      exact ⟨ho'.2.2.2.1, ho'.2.2.2.2.1, ho'.2.2.2.2.2.1, fun q hq => ⟨by trivial, ho'.2.2.2.2.2.2 q hq⟩⟩
    · rintro ⟨h1, h2, h3, h4⟩
      exact ⟨e, _, rfl, rfl, rfl, rfl, rfl, h1, h2, h3, fun q hq => (h4 q hq).2⟩
  | rt j l' r ihl ihr =>
    intro t lo hi' h hnd hm
    obtain ⟨e, n, hn, hr, ho, hl, hrr⟩ := h
    simp only [Sh.pre, List.nodup_cons, List.mem_append, List.nodup_append] at hnd
    obtain ⟨h1, h2, h3, h4⟩ := hnd
    simp only [Sh.lvs, List.mem_append] at hm
    have hji : j ≠ i := fun e => h1 (by subst e; exact hm.imp (lvs_pre _ _) (lvs_pre _ _))
    simp only [Hangs, InLf, nd_of hn]
    rw [List.getElem?_set_ne (fun e => hji e.symm)]
    rcases hm with hm | hm
    · have nr : i ∉ r.pre := fun hh => h4 i (lvs_pre _ _ hm) i hh rfl
      rw [show (∀ q ∈ l, InLf N l' lo (some n.k) i q.1 ∨ InLf N r (some n.k) hi' i q.1) ↔ (∀ q ∈ l, InLf N l' lo (some n.k) i q.1) from
        ⟨fun hh q hq => (hh q hq).elim id (fun h' => absurd (lvs_pre _ _ h'.mem) nr), fun hh q hq => .inl (hh q hq)⟩]
      rw [← ihl hl h2 hm]
      constructor
      · rintro ⟨_, m, hm', _, _, hl', _⟩
        rw [hn] at hm'; cases hm'
        exact hl'
      · intro hl'
        exact ⟨e, n, hn, hr, ho, hl', (hangs_other nr).2 hrr⟩
    · have nl : i ∉ l'.pre := fun hh => h4 i hh i (lvs_pre _ _ hm) rfl
      rw [show (∀ q ∈ l, InLf N l' lo (some n.k) i q.1 ∨ InLf N r (some n.k) hi' i q.1) ↔ (∀ q ∈ l, InLf N r (some n.k) hi' i q.1) from
        ⟨fun hh q hq => (hh q hq).elim (fun h' => absurd (lvs_pre _ _ h'.mem) nl) id, fun hh q hq => .inr (hh q hq)⟩]
      rw [← ihr hrr h3 hm]
      constructor
      · rintro ⟨_, m, hm', _, _, _, hr'⟩
        rw [hn] at hm'; cases hm'
        exact hr'
      · intro hr'
        exact ⟨e, n, hn, hr, ho, (hangs_other nl).2 hl, hr'⟩

/-! ### Sums -/

def sumZ (f : Nat → Int) : List Nat → Int
  | [] => 0
  | i :: l => f i + sumZ f l
theorem sumZ_app (f : Nat → Int) (l l' : List Nat) : sumZ f (l ++ l') = sumZ f l + sumZ f l' := by
  induction l with
  | nil => simp [sumZ]
  | cons i l ih => simp only [List.cons_append, sumZ, ih]; omega
theorem sumZ_perm (f : Nat → Int) {l l' : List Nat} (h : l.Perm l') : sumZ f l = sumZ f l' := by
  induction h with
  | nil => rfl
  | cons x _ ih => simp only [sumZ, ih]
  | swap x y l => simp only [sumZ]; omega
  | trans _ _ ih1 ih2 => exact ih1.trans ih2
theorem sumZ_range (f : Nat → Int) (n : Nat) : sumZ f (List.range (n + 1)) = sumZ f (List.range n) + f n := by
  rw [List.range_succ, sumZ_app]; simp [sumZ]
theorem allP_sum {N : List Nd} : ∀ {s : Sh} {t : Int} {lo hi : Option Int}, Hangs N s t lo hi → ((allP N s.lvs).length : Int) = sumZ (fun i => ((nd N i).p.length : Int)) s.pre := by
  intro s
  induction s with
  | lf i =>
    intro t lo hi h
    simp [Sh.pre, Sh.lvs, sumZ, allP_one]
  | rt i l r ihl ihr =>
    intro t lo hi h
    obtain ⟨e, n, hn, hr, ho, hl, hrr⟩ := h
    have h1 := ihl hl
    have h2 := ihr hrr
    simp only [Sh.pre, Sh.lvs, sumZ, sumZ_app, allP_app, List.length_append]
    rw [nd_of hn, ho.1]
    simp only [List.length_nil]
    omega
end Go.Proofs.Ytijepfabkalcoaa

namespace Go.Proofs.Ytijepfabkalcoaa
set_option linter.all false

/-- A tree without places. -/
inductive AT where
  | lf (p : List Pr) (st : Int)
  | rt (k : Int) (l r : AT)
/-- How many nodes. -/
def AT.sz : AT → Nat
  | .lf _ _ => 1
  | .rt _ l r => 1 + l.sz + r.sz
/-- How many leaves. -/
def AT.nl : AT → Nat
  | .lf _ _ => 1
  | .rt _ l r => l.nl + r.nl
def AT.all : AT → List Pr
  | .lf p _ => p
  | .rt _ l r => l.all ++ r.all
def AT.ok : AT → Option Int → Option Int → Prop
  | .lf p st, lo, hi => -1000000 ≤ st ∧ st ≤ 1000000 ∧ Srt p ∧ ∀ q ∈ p, inS lo hi q.1
  | .rt k l r, lo, hi => inS lo hi k ∧ lo ≠ some k ∧ l.ok lo (some k) ∧ r.ok (some k) hi
/-- Its nodes in the plain order. -/
def AT.lay : AT → Nat → List Nd
  | .lf p st, _ => [⟨false, 0, 0, 0, p, st⟩]
  | .rt k l r, c => ⟨true, k, ((c + 1 : Nat) : Int), ((c + 1 + l.sz : Nat) : Int), [], 0⟩ :: (l.lay (c + 1) ++ r.lay (c + 1 + l.sz))
/-- Its shape in the plain order. -/
def AT.sh : AT → Nat → Sh
  | .lf _ _, c => .lf c
  | .rt _ l r, c => .rt c (l.sh (c + 1)) (r.sh (c + 1 + l.sz))
/-- What a tree says. -/
def ab (N : List Nd) : Sh → AT
  | .lf i => .lf (nd N i).p (nd N i).s
  | .rt i l r => .rt (nd N i).k (ab N l) (ab N r)

theorem AT.sz_nl (T : AT) : T.sz + 1 = 2 * T.nl := by
  induction T with
  | lf p st => rfl
  | rt k l r ihl ihr => simp only [AT.sz, AT.nl]; omega
theorem ab_sz (N : List Nd) (s : Sh) : (ab N s).sz = s.pre.length := by
  induction s with
  | lf i => rfl
  | rt i l r ihl ihr => simp only [ab, AT.sz, Sh.pre, List.length_cons, List.length_append, ihl, ihr]; omega
theorem ab_nl (N : List Nd) (s : Sh) : (ab N s).nl = s.lvs.length := by
  induction s with
  | lf i => rfl
  | rt i l r ihl ihr => simp only [ab, AT.nl, Sh.lvs, List.length_append, ihl, ihr]
theorem ab_all (N : List Nd) (s : Sh) : (ab N s).all = allP N s.lvs := by
  induction s with
  | lf i => simp [ab, AT.all, Sh.lvs, allP]
  | rt i l r ihl ihr => simp only [ab, AT.all, Sh.lvs, allP_app, ihl, ihr]
theorem AT.lay_len (T : AT) : ∀ c, (T.lay c).length = T.sz := by
  induction T with
  | lf p st => intro c; rfl
  | rt k l r ihl ihr => intro c; simp only [AT.lay, AT.sz, List.length_cons, List.length_append, ihl, ihr]; omega
theorem AT.sh_pre (T : AT) : ∀ c, (T.sh c).pre = List.range' c T.sz := by
  induction T with
  | lf p st => intro c; rfl
  | rt k l r ihl ihr =>
    intro c
    simp only [AT.sh, Sh.pre, AT.sz, ihl, ihr]
    rw [show 1 + l.sz + r.sz = (l.sz + r.sz) + 1 by omega, List.range'_succ, List.range'_append_1]
theorem AT.sh_nl (T : AT) : ∀ c, (T.sh c).lvs.length = T.nl := by
  induction T with
  | lf p st => intro c; rfl
  | rt k l r ihl ihr => intro c; simp only [AT.sh, Sh.lvs, List.length_append, AT.nl, ihl, ihr]
/-- The plain order of what a tree says. -/
theorem lay_ab {N : List Nd} : ∀ {s : Sh} {t : Int} {lo hi : Option Int} (c : Nat), Hangs N s t lo hi → lay N s c = (ab N s).lay c := by
  intro s
  induction s with
  | lf i =>
    intro t lo hi c h
    obtain ⟨_, n, hn, hr, hk, ha, hb, _⟩ := h
    simp only [lay, ab, AT.lay, nd_of hn]
    congr 1
    exact Nd.ext' hr hk ha hb rfl rfl
  | rt i l r ihl ihr =>
    intro t lo hi c h
    obtain ⟨_, n, hn, hr, _, hl, hrr⟩ := h
    simp only [lay, ab, AT.lay, ab_sz]
    rw [ihl _ hl, ihr _ hrr]
theorem ab_ok {N : List Nd} : ∀ {s : Sh} {t : Int} {lo hi : Option Int}, Hangs N s t lo hi → (ab N s).ok lo hi := by
  intro s
  induction s with
  | lf i =>
    intro t lo hi h
    obtain ⟨_, n, hn, hr, _, _, _, h1, h2, h3, h4⟩ := h
    simp only [ab, AT.ok, nd_of hn]
    exact ⟨h1, h2, h3, h4⟩
  | rt i l r ihl ihr =>
    intro t lo hi h
    obtain ⟨_, n, hn, hr, ho, hl, hrr⟩ := h
    simp only [ab, AT.ok, nd_of hn]
    exact ⟨ho.2.2.1, ho.2.2.2, ihl hl, ihr hrr⟩
/-- The plain order hangs together. -/
theorem AT.hangs (T : AT) : ∀ {lo hi : Option Int} (A B : List Nd), T.ok lo hi → Hangs (A ++ (T.lay A.length ++ B)) (T.sh A.length) (A.length : Int) lo hi := by
  induction T with
  | lf p st =>
    intro lo hi A B h
    obtain ⟨h1, h2, h3, h4⟩ := h
    refine ⟨rfl, ⟨false, 0, 0, 0, p, st⟩, ?_, rfl, rfl, rfl, rfl, h1, h2, h3, h4⟩
    rw [List.getElem?_append_right (Nat.le_refl _), Nat.sub_self]; rfl
  | rt k l r ihl ihr =>
    intro lo hi A B h
    obtain ⟨h1, h2, h3, h4⟩ := h
    have el : A ++ ((AT.rt k l r).lay A.length ++ B) = (A ++ [⟨true, k, ((A.length + 1 : Nat) : Int), ((A.length + 1 + l.sz : Nat) : Int), [], 0⟩]) ++ (l.lay (A.length + 1) ++ (r.lay (A.length + 1 + l.sz) ++ B)) := by
      simp [AT.lay]
    have er : A ++ ((AT.rt k l r).lay A.length ++ B) = (A ++ [⟨true, k, ((A.length + 1 : Nat) : Int), ((A.length + 1 + l.sz : Nat) : Int), [], 0⟩] ++ l.lay (A.length + 1)) ++ (r.lay (A.length + 1 + l.sz) ++ B) := by
      simp [AT.lay]
    have hl := ihl (A ++ [⟨true, k, ((A.length + 1 : Nat) : Int), ((A.length + 1 + l.sz : Nat) : Int), [], 0⟩]) (r.lay (A.length + 1 + l.sz) ++ B) h3
    have hr := ihr (A ++ [⟨true, k, ((A.length + 1 : Nat) : Int), ((A.length + 1 + l.sz : Nat) : Int), [], 0⟩] ++ l.lay (A.length + 1)) B h4
    simp only [List.length_append, List.length_cons, List.length_nil, Nat.zero_add, AT.lay_len] at hl hr
    rw [← el] at hl
    rw [← er] at hr
    refine ⟨rfl, ⟨true, k, ((A.length + 1 : Nat) : Int), ((A.length + 1 + l.sz : Nat) : Int), [], 0⟩, ?_, rfl, ⟨rfl, rfl, h1, h2⟩, hl, hr⟩
    rw [List.getElem?_append_right (Nat.le_refl _), Nat.sub_self]; rfl
theorem AT.tr {T : AT} (h : T.ok none none) (hs : T.sz ≤ 2000) : Tr (T.lay 0) (T.sh 0) 0 := by
  have hh := AT.hangs T [] [] h
  simp only [List.length_nil, List.nil_append, List.append_nil] at hh
  exact ⟨by rw [AT.lay_len]; exact hs, hh, by rw [AT.sh_pre]; exact List.nodup_range', by rw [AT.sh_pre, AT.lay_len, List.length_range']⟩
/-- The plain order says what the tree says. -/
theorem AT.ab_lay (T : AT) : ∀ (A B : List Nd), ab (A ++ (T.lay A.length ++ B)) (T.sh A.length) = T := by
  induction T with
  | lf p st =>
    intro A B
    have h : (A ++ ((AT.lf p st).lay A.length ++ B))[A.length]? = some ⟨false, 0, 0, 0, p, st⟩ := by
      rw [List.getElem?_append_right (Nat.le_refl _), Nat.sub_self]; rfl
    simp only [AT.sh, ab, nd_of h]
  | rt k l r ihl ihr =>
    intro A B
    have h : (A ++ ((AT.rt k l r).lay A.length ++ B))[A.length]? = some ⟨true, k, ((A.length + 1 : Nat) : Int), ((A.length + 1 + l.sz : Nat) : Int), [], 0⟩ := by
      rw [List.getElem?_append_right (Nat.le_refl _), Nat.sub_self]; rfl
    have el : A ++ ((AT.rt k l r).lay A.length ++ B) = (A ++ [⟨true, k, ((A.length + 1 : Nat) : Int), ((A.length + 1 + l.sz : Nat) : Int), [], 0⟩]) ++ (l.lay (A.length + 1) ++ (r.lay (A.length + 1 + l.sz) ++ B)) := by
      simp [AT.lay]
    have er : A ++ ((AT.rt k l r).lay A.length ++ B) = (A ++ [⟨true, k, ((A.length + 1 : Nat) : Int), ((A.length + 1 + l.sz : Nat) : Int), [], 0⟩] ++ l.lay (A.length + 1)) ++ (r.lay (A.length + 1 + l.sz) ++ B) := by
      simp [AT.lay]
    have hl := ihl (A ++ [⟨true, k, ((A.length + 1 : Nat) : Int), ((A.length + 1 + l.sz : Nat) : Int), [], 0⟩]) (r.lay (A.length + 1 + l.sz) ++ B)
    have hr := ihr (A ++ [⟨true, k, ((A.length + 1 : Nat) : Int), ((A.length + 1 + l.sz : Nat) : Int), [], 0⟩] ++ l.lay (A.length + 1)) B
    simp only [List.length_append, List.length_cons, List.length_nil, Nat.zero_add, AT.lay_len] at hl hr
    rw [← el] at hl
    rw [← er] at hr
    simp only [AT.sh, ab, nd_of h, hl, hr]
theorem AT.ab_plain (T : AT) : ab (T.lay 0) (T.sh 0) = T := by
  have h := AT.ab_lay T [] []
  simpa using h
theorem AT.all_plain (T : AT) : allP (T.lay 0) (T.sh 0).lvs = T.all := by rw [← ab_all, AT.ab_plain]
/-! ### A leaf split -/

/-- A leaf in two. -/
def halves (p : List Pr) : AT := .rt (p.getD (p.length / 2) (0, 0)).1 (.lf (p.take (p.length / 2)) 0) (.lf (p.drop (p.length / 2)) 0)
def splA (N : List Nd) (i : Nat) : Sh → AT
  | .lf j => if j = i then halves (nd N j).p else .lf (nd N j).p (nd N j).s
  | .rt j l r => .rt (nd N j).k (splA N i l) (splA N i r)
theorem splA_out {N : List Nd} {i : Nat} : ∀ {s : Sh}, i ∉ s.lvs → splA N i s = ab N s := by
  intro s
  induction s with
  | lf j => intro h; simp [Sh.lvs] at h; rw [splA, if_neg (fun e => h e.symm)]; rfl
  | rt j l r ihl ihr =>
    intro h
    simp [Sh.lvs] at h
    rw [splA, ihl h.1, ihr h.2]; rfl
theorem halves_ok {p : List Pr} {lo hi : Option Int} (h : Srt p) (h2 : ∀ q ∈ p, inS lo hi q.1) (hl : 2 ≤ p.length) : (halves p).ok lo hi := by
  obtain ⟨q, hq⟩ : ∃ q, p[p.length / 2]? = some q := ⟨_, List.getElem?_eq_getElem (by omega)⟩
  obtain ⟨q0, hq0⟩ : ∃ q, p[0]? = some q := ⟨_, List.getElem?_eq_getElem (by omega)⟩
  have e : p.getD (p.length / 2) (0, 0) = q := by simp [List.getD, hq]
  have h1 := h.at 0 (p.length / 2) q0 q (by omega) hq0 hq
  have hin := h2 q (List.mem_of_getElem? hq)
  have hin0 := h2 q0 (List.mem_of_getElem? hq0)
  unfold halves
  rw [e]
  refine ⟨hin, fun hlo => ?_, ⟨by decide, by decide, h.take _, fun x hx => ⟨(h2 x (List.mem_of_mem_take hx)).1, fun y hy => ?_⟩⟩, ⟨by decide, by decide, h.drop _, fun x hx => ⟨fun y hy => ?_, (h2 x (List.mem_of_mem_drop hx)).2⟩⟩⟩
  · have := hin0.1 _ hlo
    omega
  · cases hy
    obtain ⟨j, hj⟩ := List.getElem?_of_mem hx
    have hjl := (List.getElem?_eq_some_iff.1 hj).1
    rw [List.length_take] at hjl
    rw [List.getElem?_take_of_lt (by omega)] at hj
    exact h.at j _ x q (by omega) hj hq
  · cases hy
    obtain ⟨j, hj⟩ := List.getElem?_of_mem hx
    rw [List.getElem?_drop] at hj
    by_cases e0 : j = 0
    · subst e0
      rw [Nat.add_zero, hq] at hj
      cases hj
      exact Int.le_refl _
    · exact Int.le_of_lt (h.at _ (p.length / 2 + j) q x (by omega) hq hj)
theorem halves_all (p : List Pr) : (halves p).all = p := by simp [halves, AT.all]
theorem splA_ok {N : List Nd} {i : Nat} : ∀ {s : Sh} {t : Int} {lo hi : Option Int}, Hangs N s t lo hi → 2 ≤ (nd N i).p.length → (splA N i s).ok lo hi := by
  intro s
  induction s with
  | lf j =>
    intro t lo hi h h2
    have ho := ab_ok h
    by_cases e : j = i
    · subst e
      obtain ⟨_, _, h3, h4⟩ := ho
      rw [splA, if_pos rfl]
      exact halves_ok h3 h4 h2
    · rw [splA, if_neg e]; exact ho
  | rt j l r ihl ihr =>
    intro t lo hi h h2
    obtain ⟨_, n, hn, hr, ho, hl, hrr⟩ := h
    simp only [splA, AT.ok, nd_of hn]
    exact ⟨ho.2.2.1, ho.2.2.2, ihl hl h2, ihr hrr h2⟩
theorem splA_all {N : List Nd} {i : Nat} : ∀ (s : Sh), (splA N i s).all = allP N s.lvs := by
  intro s
  rw [← ab_all]
  induction s with
  | lf j =>
    by_cases e : j = i
    · rw [splA, if_pos e, halves_all]; rfl
    · rw [splA, if_neg e]; rfl
  | rt j l r ihl ihr => simp only [splA, ab, AT.all, ihl, ihr]
theorem lvs_nodup : ∀ {s : Sh}, s.pre.Nodup → s.lvs.Nodup := by
  intro s
  induction s with
  | lf i => intro _; simp [Sh.lvs]
  | rt i l r ihl ihr =>
    intro h
    simp only [Sh.pre, List.nodup_cons, List.nodup_append] at h
    obtain ⟨_, hl, hr, hd⟩ := h
    simp only [Sh.lvs, List.nodup_append]
    exact ⟨ihl hl, ihr hr, fun a ha b hb => hd a (lvs_pre l a ha) b (lvs_pre r b hb)⟩
theorem splA_nl {N : List Nd} {i : Nat} : ∀ {s : Sh}, s.lvs.Nodup → i ∈ s.lvs → (splA N i s).nl = s.lvs.length + 1 := by
  intro s
  induction s with
  | lf j => intro _ h; simp [Sh.lvs] at h; rw [splA, if_pos h.symm]; rfl
  | rt j l r ihl ihr =>
    intro h hi
    simp only [Sh.lvs, List.nodup_append] at h
    obtain ⟨hl, hr, hd⟩ := h
    simp only [Sh.lvs, List.mem_append] at hi
    simp only [splA, AT.nl, Sh.lvs, List.length_append]
    rcases hi with hi | hi
    · rw [ihl hl hi, splA_out (fun h => hd i hi i h rfl), ab_nl]; omega
    · rw [ihr hr hi, splA_out (fun h => hd i h i hi rfl), ab_nl]; omega
theorem splA_sz {N : List Nd} {i : Nat} {s : Sh} (h : s.lvs.Nodup) (hi : i ∈ s.lvs) : (splA N i s).sz = s.pre.length + 2 := by
  have h1 := AT.sz_nl (splA N i s)
  rw [splA_nl h hi] at h1
  have h2 := AT.sz_nl (ab N s)
  rw [ab_sz, ab_nl] at h2
  omega

/-! ### A leaf joined to its neighbour -/

/-- Pairs put before the first leaf's. -/
def addL (p : List Pr) : AT → AT
  | .lf q _ => .lf (p ++ q) 0
  | .rt k l r => .rt k (addL p l) r
/-- Pairs put behind the last leaf's. -/
def addR (p : List Pr) : AT → AT
  | .lf q _ => .lf (q ++ p) 0
  | .rt k l r => .rt k l (addR p r)
theorem addL_all (p : List Pr) (T : AT) : (addL p T).all = p ++ T.all := by
  induction T with
  | lf q st => rfl
  | rt k l r ihl ihr => simp only [addL, AT.all, ihl, List.append_assoc]
theorem addR_all (p : List Pr) (T : AT) : (addR p T).all = T.all ++ p := by
  induction T with
  | lf q st => rfl
  | rt k l r ihl ihr => simp only [addR, AT.all, ihr, List.append_assoc]
theorem addL_nl (p : List Pr) (T : AT) : (addL p T).nl = T.nl := by
  induction T with
  | lf q st => rfl
  | rt k l r ihl ihr => simp only [addL, AT.nl, ihl]
theorem addR_nl (p : List Pr) (T : AT) : (addR p T).nl = T.nl := by
  induction T with
  | lf q st => rfl
  | rt k l r ihl ihr => simp only [addR, AT.nl, ihr]
theorem srt_cat {p q : List Pr} (hp : Srt p) (hq : Srt q) (k : Int) (h1 : ∀ x ∈ p, x.1 < k) (h2 : ∀ x ∈ q, k ≤ x.1) : Srt (p ++ q) :=
  List.pairwise_append.2 ⟨hp, hq, fun a ha b hb => Int.lt_of_lt_of_le (h1 a ha) (h2 b hb)⟩
theorem addL_ok {p : List Pr} {k : Int} (hs : Srt p) : ∀ {T : AT} {lo hi : Option Int}, (∀ q ∈ p, inS lo (some k) q.1) → inS lo hi k → lo ≠ some k → T.ok (some k) hi → (addL p T).ok lo hi := by
  intro T
  induction T with
  | lf q st =>
    intro lo hi hp hk hne h
    obtain ⟨_, _, h3, h4⟩ := h
    refine ⟨by decide, by decide, srt_cat hs h3 k (fun x hx => (hp x hx).2 k rfl) (fun x hx => (h4 x hx).1 k rfl), fun x hx => ?_⟩
    rcases List.mem_append.1 hx with hx | hx
    · refine ⟨(hp x hx).1, fun y hy => ?_⟩
      have h5 := (hp x hx).2 k rfl
      have h6 := hk.2 y hy
      omega
    · exact inS_right hk (h4 x hx)
  | rt k' l r ihl ihr =>
    intro lo hi hp hk hne h
    obtain ⟨h1, h2, h3, h4⟩ := h
    have hlt : k < k' := by
      have := h1.1 k rfl
      have : k ≠ k' := fun e => h2 (by rw [e])
      omega
    refine ⟨inS_right hk h1, fun e => ?_, ihl hp ⟨hk.1, fun y hy => by cases hy; exact hlt⟩ hne h3, h4⟩
    have := hk.1 k' e
    omega
theorem addR_ok {p : List Pr} {k : Int} (hs : Srt p) : ∀ {T : AT} {lo hi : Option Int}, (∀ q ∈ p, inS (some k) hi q.1) → inS lo hi k → T.ok lo (some k) → (addR p T).ok lo hi := by
  intro T
  induction T with
  | lf q st =>
    intro lo hi hp hk h
    obtain ⟨_, _, h3, h4⟩ := h
    refine ⟨by decide, by decide, srt_cat h3 hs k (fun x hx => (h4 x hx).2 k rfl) (fun x hx => (hp x hx).1 k rfl), fun x hx => ?_⟩
    rcases List.mem_append.1 hx with hx | hx
    · exact inS_left hk (h4 x hx)
    · exact inS_right hk (hp x hx)
  | rt k' l r ihl ihr =>
    intro lo hi hp hk h
    obtain ⟨h1, h2, h3, h4⟩ := h
    have hlt : k' < k := h1.2 k rfl
    exact ⟨inS_left hk h1, h2, h3, ihr hp ⟨fun x hx => by cases hx; omega, hk.2⟩ h4⟩
end Go.Proofs.Ytijepfabkalcoaa

namespace Go.Proofs.Ytijepfabkalcoaa
set_option linter.all false

def isLf (i : Nat) : Sh → Bool
  | .lf j => j == i
  | .rt _ _ _ => false
theorem isLf_of {i : Nat} {s : Sh} (h : isLf i s = true) : s = .lf i := by
  cases s with
  | lf j => simp [isLf] at h; rw [h]
  | rt j l r => simp [isLf] at h
/-- The leaf i joined to its neighbour. -/
def joinA (N : List Nd) (i : Nat) : Sh → Option AT
  | .lf _ => none
  | .rt j l r => if isLf i l then some (addL (nd N i).p (ab N r)) else if isLf i r then some (addR (nd N i).p (ab N l)) else if i ∈ l.lvs then (joinA N i l).map (fun L => .rt (nd N j).k L (ab N r)) else (joinA N i r).map (fun R => .rt (nd N j).k (ab N l) R)
/-- The neighbour's place. -/
def nextA (i : Nat) : Sh → Option Nat
  | .lf _ => none
  | .rt _ l r => if isLf i l then r.lvs.head? else if isLf i r then l.lvs.getLast? else if i ∈ l.lvs then nextA i l else nextA i r
/-- The lowest route above the leaf, and whether the leaf is on its right. -/
def parA (i : Nat) : Sh → Option (Nat × Bool)
  | .lf _ => none
  | .rt j l r => if isLf i l then some (j, false) else if isLf i r then some (j, true) else if i ∈ l.lvs then parA i l else parA i r
theorem not_lf {i : Nat} {s : Sh} (hi : i ∈ s.lvs) (h : isLf i s = false) : ∃ j l r, s = .rt j l r := by
  cases s with
  | lf j => simp [Sh.lvs] at hi; subst hi; simp [isLf] at h
  | rt j l r => exact ⟨j, l, r, rfl⟩
/-- The four ways. -/
theorem ways {i : Nat} {l r : Sh} (hi : i ∈ l.lvs ++ r.lvs) :
    l = .lf i ∨ (isLf i l = false ∧ r = .lf i) ∨ (isLf i l = false ∧ isLf i r = false ∧ i ∈ l.lvs) ∨ (isLf i l = false ∧ isLf i r = false ∧ i ∉ l.lvs ∧ i ∈ r.lvs) := by
  cases h1 : isLf i l
  · cases h2 : isLf i r
    · rcases Classical.em (i ∈ l.lvs) with h | h
      · exact .inr (.inr (.inl ⟨rfl, rfl, h⟩))
      · exact .inr (.inr (.inr ⟨rfl, rfl, h, (List.mem_append.1 hi).resolve_left h⟩))
    · exact .inr (.inl ⟨rfl, isLf_of h2⟩)
  · exact .inl (isLf_of h1)
theorem isLf_self (i : Nat) : isLf i (.lf i) = true := by simp [isLf]
section
variable {N : List Nd} {i j : Nat} {l r : Sh}
theorem joinA_1 : joinA N i (.rt j (.lf i) r) = some (addL (nd N i).p (ab N r)) := by rw [joinA, if_pos (isLf_self i)]
theorem joinA_2 (h : isLf i l = false) : joinA N i (.rt j l (.lf i)) = some (addR (nd N i).p (ab N l)) := by rw [joinA, if_neg (by rw [h]; decide), if_pos (isLf_self i)]
theorem joinA_3 (h : isLf i l = false) (h2 : isLf i r = false) (hi : i ∈ l.lvs) : joinA N i (.rt j l r) = (joinA N i l).map (fun L => .rt (nd N j).k L (ab N r)) := by rw [joinA, if_neg (by rw [h]; decide), if_neg (by rw [h2]; decide), if_pos hi]
theorem joinA_4 (h : isLf i l = false) (h2 : isLf i r = false) (hi : i ∉ l.lvs) : joinA N i (.rt j l r) = (joinA N i r).map (fun R => .rt (nd N j).k (ab N l) R) := by rw [joinA, if_neg (by rw [h]; decide), if_neg (by rw [h2]; decide), if_neg hi]
theorem nextA_1 : nextA i (.rt j (.lf i) r) = r.lvs.head? := by rw [nextA, if_pos (isLf_self i)]
theorem nextA_2 (h : isLf i l = false) : nextA i (.rt j l (.lf i)) = l.lvs.getLast? := by rw [nextA, if_neg (by rw [h]; decide), if_pos (isLf_self i)]
theorem nextA_3 (h : isLf i l = false) (h2 : isLf i r = false) (hi : i ∈ l.lvs) : nextA i (.rt j l r) = nextA i l := by rw [nextA, if_neg (by rw [h]; decide), if_neg (by rw [h2]; decide), if_pos hi]
theorem nextA_4 (h : isLf i l = false) (h2 : isLf i r = false) (hi : i ∉ l.lvs) : nextA i (.rt j l r) = nextA i r := by rw [nextA, if_neg (by rw [h]; decide), if_neg (by rw [h2]; decide), if_neg hi]
theorem parA_1 : parA i (.rt j (.lf i) r) = some (j, false) := by rw [parA, if_pos (isLf_self i)]
theorem parA_2 (h : isLf i l = false) : parA i (.rt j l (.lf i)) = some (j, true) := by rw [parA, if_neg (by rw [h]; decide), if_pos (isLf_self i)]
theorem parA_3 (h : isLf i l = false) (h2 : isLf i r = false) (hi : i ∈ l.lvs) : parA i (.rt j l r) = parA i l := by rw [parA, if_neg (by rw [h]; decide), if_neg (by rw [h2]; decide), if_pos hi]
theorem parA_4 (h : isLf i l = false) (h2 : isLf i r = false) (hi : i ∉ l.lvs) : parA i (.rt j l r) = parA i r := by rw [parA, if_neg (by rw [h]; decide), if_neg (by rw [h2]; decide), if_neg hi]
end
/-- What becomes of it. -/
theorem joinA_is {N : List Nd} {i : Nat} : ∀ {s : Sh} {t : Int} {lo hi : Option Int}, Hangs N s t lo hi → i ∈ s.lvs → isLf i s = false → ∃ T, joinA N i s = some T ∧ T.ok lo hi ∧ T.all = allP N s.lvs ∧ T.nl + 1 = s.lvs.length := by
  intro s
  induction s with
  | lf j => intro t lo hi _ hi' h; obtain ⟨_, _, _, e⟩ := not_lf hi' h; cases e
  | rt j l r ihl ihr =>
    intro t lo hi h hi' _
    obtain ⟨_, n, hn, hr, ho, hl, hrr⟩ := h
    have ol := ab_ok hl
    have or_ := ab_ok hrr
    rcases ways (l := l) (r := r) hi' with rfl | ⟨h1, rfl⟩ | ⟨h1, h2, h3⟩ | ⟨h1, h2, h3, h4⟩
    · obtain ⟨_, _, hs, hp⟩ := ol
      refine ⟨_, joinA_1, addL_ok hs hp ho.2.2.1 ho.2.2.2 or_, ?_, ?_⟩
      · rw [addL_all, ab_all]; simp [Sh.lvs, allP]
      · rw [addL_nl, ab_nl]; simp [Sh.lvs, Nat.add_comm]
    · obtain ⟨_, _, hs, hp⟩ := or_
      refine ⟨_, joinA_2 h1, addR_ok hs hp ho.2.2.1 ol, ?_, ?_⟩
      · rw [addR_all, ab_all]; simp [Sh.lvs, allP]
      · rw [addR_nl, ab_nl]; simp [Sh.lvs]
    · obtain ⟨T, e, k1, k2, k3⟩ := ihl hl h3 h1
      refine ⟨.rt (nd N j).k T (ab N r), by rw [joinA_3 h1 h2 h3, e]; rfl, ⟨by rw [nd_of hn]; exact ho.2.2.1, by rw [nd_of hn]; exact ho.2.2.2, by rw [nd_of hn]; exact k1, by rw [nd_of hn]; exact or_⟩, ?_, ?_⟩
      · simp only [AT.all, Sh.lvs, allP_app, k2, ab_all]
      · simp only [AT.nl, Sh.lvs, List.length_append, ab_nl]; omega
    · obtain ⟨T, e, k1, k2, k3⟩ := ihr hrr h4 h2
      refine ⟨.rt (nd N j).k (ab N l) T, by rw [joinA_4 h1 h2 h3, e]; rfl, ⟨by rw [nd_of hn]; exact ho.2.2.1, by rw [nd_of hn]; exact ho.2.2.2, by rw [nd_of hn]; exact ol, by rw [nd_of hn]; exact k1⟩, ?_, ?_⟩
      · simp only [AT.all, Sh.lvs, allP_app, k2, ab_all]
      · simp only [AT.nl, Sh.lvs, List.length_append, ab_nl]; omega
/-- The neighbour is the leaf beside it. -/
theorem nextA_is {i : Nat} : ∀ {s : Sh}, i ∈ s.lvs → isLf i s = false → ∃ k m, nextA i s = some k ∧ ((s.lvs[m]? = some i ∧ s.lvs[m + 1]? = some k) ∨ (s.lvs[m]? = some k ∧ s.lvs[m + 1]? = some i)) := by
  intro s
  induction s with
  | lf j => intro hi' h; obtain ⟨_, _, _, e⟩ := not_lf hi' h; cases e
  | rt j l r ihl ihr =>
    intro hi' _
    rcases ways (l := l) (r := r) hi' with rfl | ⟨h1, rfl⟩ | ⟨h1, h2, h3⟩ | ⟨h1, h2, h3, h4⟩
    · obtain ⟨k, rest, e⟩ := List.exists_cons_of_ne_nil (l := r.lvs) (fun e => by have := lvs_pos r; rw [e] at this; exact absurd this (by simp))
      refine ⟨k, 0, by rw [nextA_1, e]; rfl, .inl ⟨rfl, ?_⟩⟩
      simp [Sh.lvs, e]
    · have hp := lvs_pos l
      obtain ⟨k, hk⟩ : ∃ k, l.lvs[l.lvs.length - 1]? = some k := ⟨_, List.getElem?_eq_getElem (by omega)⟩
      refine ⟨k, l.lvs.length - 1, by rw [nextA_2 h1, List.getLast?_eq_getElem?, hk], .inr ⟨?_, ?_⟩⟩
      · simp only [Sh.lvs]; rw [List.getElem?_append_left (by omega), hk]
      · simp only [Sh.lvs]; rw [List.getElem?_append_right (by omega), show l.lvs.length - 1 + 1 - l.lvs.length = 0 by omega]; rfl
    · obtain ⟨k, m, e, h⟩ := ihl h3 h1
      refine ⟨k, m, by rw [nextA_3 h1 h2 h3, e], ?_⟩
      simp only [Sh.lvs]
      rcases h with ⟨ha, hb⟩ | ⟨ha, hb⟩
      · have := (List.getElem?_eq_some_iff.1 hb).1
        exact .inl ⟨by rw [List.getElem?_append_left (by omega), ha], by rw [List.getElem?_append_left (by omega), hb]⟩
      · have := (List.getElem?_eq_some_iff.1 hb).1
        exact .inr ⟨by rw [List.getElem?_append_left (by omega), ha], by rw [List.getElem?_append_left (by omega), hb]⟩
    · obtain ⟨k, m, e, h⟩ := ihr h4 h2
      refine ⟨k, l.lvs.length + m, by rw [nextA_4 h1 h2 h3, e], ?_⟩
      simp only [Sh.lvs]
      rcases h with ⟨ha, hb⟩ | ⟨ha, hb⟩
      · exact .inl ⟨by rw [List.getElem?_append_right (by omega), Nat.add_sub_cancel_left, ha], by rw [List.getElem?_append_right (by omega), show l.lvs.length + m + 1 - l.lvs.length = m + 1 by omega, hb]⟩
      · exact .inr ⟨by rw [List.getElem?_append_right (by omega), Nat.add_sub_cancel_left, ha], by rw [List.getElem?_append_right (by omega), show l.lvs.length + m + 1 - l.lvs.length = m + 1 by omega, hb]⟩
theorem nextA_mem {i k : Nat} {s : Sh} (hi : i ∈ s.lvs) (h : nextA i s = some k) : k ∈ s.lvs := by
  by_cases hl : isLf i s = false
  · obtain ⟨k', m, e, hh⟩ := nextA_is hi hl
    rw [h] at e; cases e
    rcases hh with ⟨_, hb⟩ | ⟨ha, _⟩
    · exact List.mem_of_getElem? hb
    · exact List.mem_of_getElem? ha
  · have : s = .lf i := isLf_of (by simpa using hl)
    subst this
    cases h
theorem kids0 {N : List Nd} : ∀ {s : Sh} {t : Int} {lo hi : Option Int}, Hangs N s t lo hi → ∀ x ∈ s.pre, ∀ n, N[x]? = some n → n.r = true → ∃ a b : Nat, n.a = a ∧ n.b = b ∧ a ∈ s.pre ∧ b ∈ s.pre := by
  intro s
  induction s with
  | lf i =>
    intro t lo hi h x hx n hn hr
    simp [Sh.pre] at hx
    subst hx
    obtain ⟨_, m, hm, hmr, _⟩ := h
    rw [hn] at hm; cases hm
    rw [hr] at hmr; cases hmr
  | rt i l r ihl ihr =>
    intro t lo hi h x hx n hn hr
    obtain ⟨_, m, hm, hmr, _, hl, hrr⟩ := h
    simp only [Sh.pre, List.mem_cons, List.mem_append] at hx
    simp only [Sh.pre, List.mem_cons, List.mem_append]
    rcases hx with rfl | hx | hx
    · rw [hn] at hm; cases hm
      exact ⟨_, _, hl.top, hrr.top, .inr (.inl l.top_mem), .inr (.inr r.top_mem)⟩
    · obtain ⟨a, b, h1, h2, h3, h4⟩ := ihl hl x hx n hn hr
      exact ⟨a, b, h1, h2, .inr (.inl h3), .inr (.inl h4)⟩
    · obtain ⟨a, b, h1, h2, h3, h4⟩ := ihr hrr x hx n hn hr
      exact ⟨a, b, h1, h2, .inr (.inr h3), .inr (.inr h4)⟩
theorem lf_false {N : List Nd} {s : Sh} {t : Int} {lo hi : Option Int} (h : Hangs N s t lo hi) {i : Nat} (hi' : i ∈ s.lvs) {n : Nd} (hn : N[i]? = some n) : n.r = false := by
  have := hi'
  rw [lvs_filter h, List.mem_filter, nd_of hn] at this
  simpa using this.2
theorem top_ne {N : List Nd} {s : Sh} {t : Int} {lo hi : Option Int} (h : Hangs N s t lo hi) {i : Nat} (hi' : i ∈ s.lvs) (hl : isLf i s = false) : s.top ≠ i := by
  intro e
  obtain ⟨j, l, r, rfl⟩ := not_lf hi' hl
  obtain ⟨_, n, hn, hr, _⟩ := id h
  have e : j = i := e
  subst e
  have := lf_false h hi' hn
  rw [hr] at this; cases this
/-- The one route above the leaf. -/
theorem parA_is {N : List Nd} {i : Nat} : ∀ {s : Sh} {t : Int} {lo hi : Option Int}, Hangs N s t lo hi → s.pre.Nodup → i ∈ s.lvs → isLf i s = false →
    ∃ x b n, parA i s = some (x, b) ∧ x ∈ s.pre ∧ N[x]? = some n ∧ n.r = true ∧ (b = false → n.a = i ∧ n.b ≠ i) ∧ (b = true → n.b = i ∧ n.a ≠ i) ∧ ∀ y ∈ s.pre, ∀ m, N[y]? = some m → m.r = true → m.a = i ∨ m.b = i → y = x := by
  intro s
  induction s with
  | lf j => intro t lo hi _ _ hi' h; obtain ⟨_, _, _, e⟩ := not_lf hi' h; cases e
  | rt j l r ihl ihr =>
    intro t lo hi h hnd hi' _
    have hh := h
    obtain ⟨_, n, hn, hr, ho, hl, hrr⟩ := h
    simp only [Sh.pre, List.nodup_cons, List.nodup_append] at hnd
    obtain ⟨hj, ndl, ndr, hd⟩ := hnd
    have hal := hl.top
    have hbr := hrr.top
    have inl : ∀ y ∈ l.pre, ∀ m, N[y]? = some m → m.r = true → m.a = i ∨ m.b = i → i ∈ l.pre := fun y hy m hm hmr hc => by
      obtain ⟨a, b, h1, h2, h3, h4⟩ := kids0 hl y hy m hm hmr
      rcases hc with hc | hc
      · rw [show i = a by omega]; exact h3
      · rw [show i = b by omega]; exact h4
    have inr : ∀ y ∈ r.pre, ∀ m, N[y]? = some m → m.r = true → m.a = i ∨ m.b = i → i ∈ r.pre := fun y hy m hm hmr hc => by
      obtain ⟨a, b, h1, h2, h3, h4⟩ := kids0 hrr y hy m hm hmr
      rcases hc with hc | hc
      · rw [show i = a by omega]; exact h3
      · rw [show i = b by omega]; exact h4
    rcases ways (l := l) (r := r) hi' with rfl | ⟨h1, rfl⟩ | ⟨h1, h2, h3⟩ | ⟨h1, h2, h3, h4⟩
    · have hir : i ∉ r.pre := fun hh => hd i (by simp [Sh.pre]) i hh rfl
      refine ⟨j, false, n, parA_1, by simp [Sh.pre], hn, hr, fun _ => ⟨hal, fun e => hir (by rw [show i = r.top by omega]; exact r.top_mem)⟩, fun h => (by cases h), fun y hy m hm hmr hc => ?_⟩
      simp only [Sh.pre, List.mem_cons, List.mem_append] at hy
      rcases hy with rfl | hy | hy
      · rfl
      · simp at hy
        subst hy
        have := lf_false hl (by simp [Sh.lvs]) hm
        rw [hmr] at this; cases this
      · exact absurd (inr y hy m hm hmr hc) hir
    · have hil : i ∉ l.pre := fun hh => hd i hh i (by simp [Sh.pre]) rfl
      refine ⟨j, true, n, parA_2 h1, by simp [Sh.pre], hn, hr, fun h => (by cases h), fun _ => ⟨hbr, fun e => hil (by rw [show i = l.top by omega]; exact l.top_mem)⟩, fun y hy m hm hmr hc => ?_⟩
      simp only [Sh.pre, List.mem_cons, List.mem_append] at hy
      rcases hy with rfl | hy | hy
      · rfl
      · exact absurd (inl y hy m hm hmr hc) hil
      · simp at hy
        subst hy
        have := lf_false hrr (by simp [Sh.lvs]) hm
        rw [hmr] at this; cases this
    · have hip := lvs_pre l i h3
      have hir : i ∉ r.pre := fun hh => hd i hip i hh rfl
      obtain ⟨x, b, m, e1, e2, e3, e4, e5, e6, e7⟩ := ihl hl ndl h3 h1
      refine ⟨x, b, m, by rw [parA_3 h1 h2 h3, e1], by simp [Sh.pre, e2], e3, e4, e5, e6, fun y hy m' hm hmr hc => ?_⟩
      simp only [Sh.pre, List.mem_cons, List.mem_append] at hy
      rcases hy with rfl | hy | hy
      · rw [hn] at hm; cases hm
        rcases hc with hc | hc
        · exact absurd (show l.top = i by omega) (top_ne hl h3 h1)
        · exact absurd (show i ∈ r.pre by rw [show i = r.top by omega]; exact r.top_mem) hir
      · exact e7 y hy m' hm hmr hc
      · exact absurd (inr y hy m' hm hmr hc) hir
    · have hip := lvs_pre r i h4
      have hil : i ∉ l.pre := fun hh => hd i hh i hip rfl
      obtain ⟨x, b, m, e1, e2, e3, e4, e5, e6, e7⟩ := ihr hrr ndr h4 h2
      refine ⟨x, b, m, by rw [parA_4 h1 h2 h3, e1], by simp [Sh.pre, e2], e3, e4, e5, e6, fun y hy m' hm hmr hc => ?_⟩
      simp only [Sh.pre, List.mem_cons, List.mem_append] at hy
      rcases hy with rfl | hy | hy
      · rw [hn] at hm; cases hm
        rcases hc with hc | hc
        · exact absurd (show i ∈ l.pre by rw [show i = l.top by omega]; exact l.top_mem) hil
        · exact absurd (show r.top = i by omega) (top_ne hrr h4 h2)
      · exact absurd (inl y hy m' hm hmr hc) hil
      · exact e7 y hy m' hm hmr hc
end Go.Proofs.Ytijepfabkalcoaa

namespace Go.Proofs.Ytijepfabkalcoaa
set_option linter.all false

/-- The shape without a route, in whose place its other side stands. -/
def skp (x : Nat) (b : Bool) : Sh → Sh
  | .lf i => .lf i
  | .rt i l r => if i = x then (if b = true then l else r) else .rt i (skp x b l) (skp x b r)
theorem skp_out {x : Nat} {b : Bool} : ∀ {s : Sh}, x ∉ s.pre → skp x b s = s := by
  intro s
  induction s with
  | lf i => intro _; rfl
  | rt i l r ihl ihr =>
    intro h
    simp [Sh.pre] at h
    rw [skp, if_neg (fun e => h.1 e.symm), ihl h.2.1, ihr h.2.2]
theorem skp_lvs {x : Nat} {b : Bool} : ∀ {s : Sh}, ∀ j ∈ (skp x b s).lvs, j ∈ s.lvs := by
  intro s
  induction s with
  | lf i => intro j h; exact h
  | rt i l r ihl ihr =>
    intro j h
    rw [skp] at h
    simp only [Sh.lvs, List.mem_append]
    split at h
    · split at h
      · exact .inl h
      · exact .inr h
    · simp only [Sh.lvs, List.mem_append] at h
      rcases h with h | h
      · exact .inl (ihl j h)
      · exact .inr (ihr j h)
theorem ab_congr {N M : List Nd} : ∀ {s : Sh}, (∀ j ∈ s.pre, nd N j = nd M j) → ab N s = ab M s := by
  intro s
  induction s with
  | lf i => intro h; simp only [ab]; rw [h i (by simp [Sh.pre])]
  | rt i l r ihl ihr =>
    intro h
    simp only [ab]
    rw [h i (by simp [Sh.pre]), ihl (fun j hj => h j (by simp [Sh.pre, hj])), ihr (fun j hj => h j (by simp [Sh.pre, hj]))]
theorem nd_set {N : List Nd} {k : Nat} {m : Nd} (hk : k < N.length) : nd (N.set k m) k = m := by
  apply nd_of; rw [List.getElem?_set_self hk]
theorem nd_set_ne {N : List Nd} {k j : Nat} {m : Nd} (h : k ≠ j) : nd (N.set k m) j = nd N j := by
  simp [nd, List.getD, List.getElem?_set_ne h]
theorem ab_set_out {N : List Nd} {k : Nat} {m : Nd} {s : Sh} (h : k ∉ s.pre) : ab (N.set k m) s = ab N s :=
  ab_congr (fun j hj => nd_set_ne (fun e => h (e ▸ hj)))
theorem head_app {l r : List Nat} (h : 0 < l.length) : (l ++ r).head? = l.head? := by cases l with | nil => simp at h | cons a l => rfl
theorem last_app {l r : List Nat} (h : 0 < r.length) : (l ++ r).getLast? = r.getLast? := by
  rw [List.getLast?_append]
  cases e : r.getLast? with
  | none => rw [List.getLast?_eq_none_iff] at e; rw [e] at h; simp at h
  | some a => rfl
theorem addL_set {N : List Nd} {k : Nat} {p : List Pr} (hk : k < N.length) : ∀ {s : Sh}, s.pre.Nodup → s.lvs.head? = some k → ab (N.set k ⟨false, 0, 0, 0, p ++ (nd N k).p, 0⟩) s = addL p (ab N s) := by
  intro s
  induction s with
  | lf i => intro _ h; simp [Sh.lvs] at h; subst h; simp only [ab, nd_set hk, addL]
  | rt i l r ihl ihr =>
    intro hnd h
    simp only [Sh.pre, List.nodup_cons, List.nodup_append] at hnd
    obtain ⟨hi, ndl, ndr, hd⟩ := hnd
    simp only [Sh.lvs] at h
    rw [head_app (lvs_pos l)] at h
    have hkl := lvs_pre l k (List.mem_of_mem_head? h)
    simp only [ab, addL]
    rw [ihl ndl h, nd_set_ne (fun e => hi (by rw [← e]; exact List.mem_append_left _ hkl)), ab_set_out (fun hh => hd k hkl k hh rfl)]
theorem addR_set {N : List Nd} {k : Nat} {p : List Pr} (hk : k < N.length) : ∀ {s : Sh}, s.pre.Nodup → s.lvs.getLast? = some k → ab (N.set k ⟨false, 0, 0, 0, (nd N k).p ++ p, 0⟩) s = addR p (ab N s) := by
  intro s
  induction s with
  | lf i => intro _ h; simp [Sh.lvs] at h; subst h; simp only [ab, nd_set hk, addR]
  | rt i l r ihl ihr =>
    intro hnd h
    simp only [Sh.pre, List.nodup_cons, List.nodup_append] at hnd
    obtain ⟨hi, ndl, ndr, hd⟩ := hnd
    simp only [Sh.lvs] at h
    rw [last_app (lvs_pos r)] at h
    have hkr := lvs_pre r k (List.mem_of_getLast? h)
    simp only [ab, addR]
    rw [ihr ndr h, nd_set_ne (fun e => hi (by rw [← e]; exact List.mem_append_right _ hkr)), ab_set_out (fun hh => hd k hh k hkr rfl)]
/-- What the neighbour holds then. -/
def merged (N : List Nd) (i k : Nat) (b : Bool) : Nd := ⟨false, 0, 0, 0, if b = true then (nd N k).p ++ (nd N i).p else (nd N i).p ++ (nd N k).p, 0⟩
/-- A join, as it is laid out. -/
theorem joinA_skp {N : List Nd} {i k x : Nat} {b : Bool} (hk : k < N.length) : ∀ {s : Sh}, s.pre.Nodup → i ∈ s.lvs → isLf i s = false → parA i s = some (x, b) → nextA i s = some k →
    x ∈ s.pre ∧ k ∈ s.lvs ∧ joinA N i s = some (ab (N.set k (merged N i k b)) (skp x b s)) ∧ (skp x b s).pre.length + 2 = s.pre.length := by
  intro s
  induction s with
  | lf j => intro _ hi' h; obtain ⟨_, _, _, e⟩ := not_lf hi' h; cases e
  | rt j l r ihl ihr =>
    intro hnd hi' _ hp hn
    have hkm := nextA_mem hi' hn
    simp only [Sh.pre, List.nodup_cons, List.nodup_append] at hnd
    obtain ⟨hj, ndl, ndr, hd⟩ := hnd
    rcases ways (l := l) (r := r) hi' with rfl | ⟨h1, rfl⟩ | ⟨h1, h2, h3⟩ | ⟨h1, h2, h3, h4⟩
    · rw [parA_1] at hp
      rw [nextA_1] at hn
      cases hp
      refine ⟨by simp [Sh.pre], hkm, ?_, by rw [skp, if_pos rfl]; simp [Sh.pre]⟩
      rw [joinA_1, skp, if_pos rfl, if_neg (by decide)]
      have := addL_set (p := (nd N i).p) hk ndr hn
      rw [← this]; rfl
    · rw [parA_2 h1] at hp
      rw [nextA_2 h1] at hn
      cases hp
      refine ⟨by simp [Sh.pre], hkm, ?_, by rw [skp, if_pos rfl]; simp [Sh.pre]⟩
      rw [joinA_2 h1, skp, if_pos rfl, if_pos rfl]
      have := addR_set (p := (nd N i).p) hk ndl hn
      rw [← this]; rfl
    · rw [parA_3 h1 h2 h3] at hp
      rw [nextA_3 h1 h2 h3] at hn
      obtain ⟨hx, hkl, e, el⟩ := ihl ndl h3 h1 hp hn
      have hxj : j ≠ x := fun e => hj (by rw [e]; exact List.mem_append_left _ hx)
      have hkp := lvs_pre l k hkl
      have hkj : k ≠ j := fun e => hj (by rw [← e]; exact List.mem_append_left _ hkp)
      refine ⟨by simp [Sh.pre, hx], hkm, ?_, ?_⟩
      · rw [joinA_3 h1 h2 h3, e, skp, if_neg hxj, skp_out (s := r) (fun hh => hd x hx x hh rfl)]
        simp only [Option.map_some, ab]
        rw [nd_set_ne hkj, ab_set_out (s := r) (fun hh => hd k hkp k hh rfl)]
      · rw [skp, if_neg hxj, skp_out (s := r) (fun hh => hd x hx x hh rfl)]
        simp only [Sh.pre, List.length_cons, List.length_append]; omega
    · rw [parA_4 h1 h2 h3] at hp
      rw [nextA_4 h1 h2 h3] at hn
      obtain ⟨hx, hkl, e, el⟩ := ihr ndr h4 h2 hp hn
      have hxj : j ≠ x := fun e => hj (by rw [e]; exact List.mem_append_right _ hx)
      have hkp := lvs_pre r k hkl
      have hkj : k ≠ j := fun e => hj (by rw [← e]; exact List.mem_append_right _ hkp)
      refine ⟨by simp [Sh.pre, hx], hkm, ?_, ?_⟩
      · rw [joinA_4 h1 h2 h3, e, skp, if_neg hxj, skp_out (s := l) (fun hh => hd x hh x hx rfl)]
        simp only [Option.map_some, ab]
        rw [nd_set_ne hkj, ab_set_out (s := l) (fun hh => hd k hh k hkp rfl)]
      · rw [skp, if_neg hxj, skp_out (s := l) (fun hh => hd x hh x hx rfl)]
        simp only [Sh.pre, List.length_cons, List.length_append]; omega
/-- The plain order needs of the leaves alone that they are leaves. -/
theorem lay_ab' {N : List Nd} : ∀ {s : Sh} (c : Nat), (∀ i ∈ s.lvs, (nd N i).r = false ∧ (nd N i).k = 0 ∧ (nd N i).a = 0 ∧ (nd N i).b = 0) → lay N s c = (ab N s).lay c := by
  intro s
  induction s with
  | lf i =>
    intro c h
    obtain ⟨hr, hk, ha, hb⟩ := h i (by simp [Sh.lvs])
    simp only [lay, ab, AT.lay]
    congr 1
    exact Nd.ext' hr hk ha hb rfl rfl
  | rt i l r ihl ihr =>
    intro c h
    simp only [lay, ab, AT.lay, ab_sz]
    rw [ihl _ (fun i hi => h i (by simp [Sh.lvs, hi])), ihr _ (fun i hi => h i (by simp [Sh.lvs, hi]))]
theorem lf_plain {N : List Nd} {s : Sh} {t : Int} {lo hi : Option Int} (h : Hangs N s t lo hi) (i : Nat) (hi' : i ∈ s.lvs) : (nd N i).r = false ∧ (nd N i).k = 0 ∧ (nd N i).a = 0 ∧ (nd N i).b = 0 := by
  obtain ⟨n, lo', hi2, hn, hl, _⟩ := hangs_leaf h i (lvs_pre s i hi')
  have hr := lf_false h hi' hn
  obtain ⟨h1, h2, h3, _⟩ := hl hr
  rw [nd_of hn]
  exact ⟨hr, h1, h2, h3⟩
/-- A join of a tree: what is laid out. -/
theorem join_lay {N : List Nd} {s : Sh} {t : Int} (h : Tr N s t) {i k x : Nat} {b : Bool} (hi : i ∈ s.lvs) (hl : isLf i s = false) (hp : parA i s = some (x, b)) (hn : nextA i s = some k) :
    ∃ T, joinA N i s = some T ∧ lay (N.set k (merged N i k b)) (skp x b s) 0 = T.lay 0 ∧ T.ok none none ∧ T.sz + 2 = N.length ∧ T.all = allP N s.lvs ∧ T.nl + 1 = s.lvs.length := by
  have hkm := nextA_mem hi hn
  have hk := h.hg.lt k (lvs_pre s k hkm)
  obtain ⟨_, _, e, el⟩ := joinA_skp (N := N) hk h.nd hi hl hp hn
  obtain ⟨T, e2, h1, h2, h3⟩ := joinA_is h.hg hi hl
  rw [e2] at e
  cases e
  refine ⟨_, e2, ?_, h1, by rw [ab_sz, el, h.all], h2, h3⟩
  exact lay_ab' 0 (fun j hj => by
    by_cases ej : k = j
    · subst ej
      rw [nd_set hk]; exact ⟨rfl, rfl, rfl, rfl⟩
    · rw [nd_set_ne ej]; exact lf_plain h.hg j (skp_lvs j hj))

/-! ### A split, as it is laid out -/

def splS (i n : Nat) : Sh → Sh
  | .lf j => if j = i then .rt i (.lf n) (.lf (n + 1)) else .lf j
  | .rt j l r => .rt j (splS i n l) (splS i n r)
/-- The nodes: a route in the leaf's place, two leaves behind all. -/
def splN (N : List Nd) (i : Nat) : List Nd :=
  (N.set i ⟨true, ((nd N i).p.getD ((nd N i).p.length / 2) (0, 0)).1, (N.length : Int), ((N.length + 1 : Nat) : Int), [], 0⟩) ++ [⟨false, 0, 0, 0, (nd N i).p.take ((nd N i).p.length / 2), 0⟩, ⟨false, 0, 0, 0, (nd N i).p.drop ((nd N i).p.length / 2), 0⟩]
theorem splN_len (N : List Nd) (i : Nat) : (splN N i).length = N.length + 2 := by simp [splN]
theorem splN_at {N : List Nd} {i j : Nat} (h : i ≠ j) (hj : j < N.length) : (splN N i)[j]? = N[j]? := by
  unfold splN
  rw [List.getElem?_append_left (by rw [List.length_set]; exact hj), List.getElem?_set_ne h]
theorem splN_i {N : List Nd} {i : Nat} (h : i < N.length) : (splN N i)[i]? = some ⟨true, ((nd N i).p.getD ((nd N i).p.length / 2) (0, 0)).1, (N.length : Int), ((N.length + 1 : Nat) : Int), [], 0⟩ := by
  unfold splN
  rw [List.getElem?_append_left (by rw [List.length_set]; exact h), List.getElem?_set_self h]
theorem splN_n (N : List Nd) (i : Nat) : (splN N i)[N.length]? = some ⟨false, 0, 0, 0, (nd N i).p.take ((nd N i).p.length / 2), 0⟩ := by
  unfold splN
  rw [List.getElem?_append_right (by rw [List.length_set]; exact Nat.le_refl _), List.length_set, Nat.sub_self]; rfl
theorem splN_n1 (N : List Nd) (i : Nat) : (splN N i)[N.length + 1]? = some ⟨false, 0, 0, 0, (nd N i).p.drop ((nd N i).p.length / 2), 0⟩ := by
  unfold splN
  rw [List.getElem?_append_right (by rw [List.length_set]; omega), List.length_set, show N.length + 1 - N.length = 1 by omega]; rfl
theorem spl_hangs {N : List Nd} {i : Nat} (hif : (nd N i).r = false) (h2 : 2 ≤ (nd N i).p.length) : ∀ {s : Sh} {t : Int} {lo hi : Option Int}, Hangs N s t lo hi → Hangs (splN N i) (splS i N.length s) t lo hi ∧ ab (splN N i) (splS i N.length s) = splA N i s := by
  intro s
  induction s with
  | lf j =>
    intro t lo hi h
    have hjl := h.lt j (by simp [Sh.pre])
    by_cases e : j = i
    · subst e
      have ho := splA_ok h h2
      rw [splA, if_pos rfl] at ho ⊢
      rw [splS, if_pos rfl]
      obtain ⟨k1, k2, ⟨k3, k4, k5, k6⟩, ⟨k7, k8, k9, k10⟩⟩ := ho
      refine ⟨⟨h.1, _, splN_i hjl, rfl, ⟨rfl, rfl, k1, k2⟩, ⟨rfl, _, splN_n N j, rfl, rfl, rfl, rfl, k3, k4, k5, k6⟩, ⟨rfl, _, splN_n1 N j, rfl, rfl, rfl, rfl, k7, k8, k9, k10⟩⟩, ?_⟩
      simp only [ab, nd_of (splN_i hjl), nd_of (splN_n N j), nd_of (splN_n1 N j), halves]
    · rw [splS, if_neg e, splA, if_neg e]
      obtain ⟨ht, n, hn, hr, ho⟩ := h
      have hn2 := (splN_at (fun e' => e e'.symm) hjl).trans hn
      refine ⟨⟨ht, n, hn2, hr, ho⟩, ?_⟩
      simp only [ab, nd_of hn2, nd_of hn]
  | rt j l r ihl ihr =>
    intro t lo hi h
    have hjl := h.lt j (by simp [Sh.pre])
    obtain ⟨ht, n, hn, hr, ho, hl, hrr⟩ := h
    have hne : i ≠ j := fun e => by subst e; rw [nd_of hn] at hif; rw [hr] at hif; cases hif
    have hn2 := (splN_at hne hjl).trans hn
    obtain ⟨a1, a2⟩ := ihl hl
    obtain ⟨b1, b2⟩ := ihr hrr
    refine ⟨⟨ht, n, hn2, hr, ho, a1, b1⟩, ?_⟩
    simp only [splS, ab, splA, a2, b2, nd_of hn2, nd_of hn]
theorem splS_pre {i n : Nat} : ∀ {s : Sh}, s.pre.Nodup → (∀ j ∈ s.pre, j < n) → (splS i n s).pre.Nodup ∧ (∀ j ∈ (splS i n s).pre, j ∈ s.pre ∨ (i ∈ s.lvs ∧ (j = n ∨ j = n + 1))) ∧ (splS i n s).pre.length = s.pre.length + (if i ∈ s.lvs then 2 else 0) := by
  intro s
  induction s with
  | lf j =>
    intro hnd hlt
    have hj := hlt j (by simp [Sh.pre])
    by_cases e : j = i
    · subst e
      rw [splS, if_pos rfl]
      refine ⟨by simp [Sh.pre]; omega, fun x hx => ?_, by simp [Sh.pre, Sh.lvs]⟩
      simp [Sh.pre] at hx
      rcases hx with rfl | rfl | rfl
      · exact .inl (by simp [Sh.pre])
      · exact .inr ⟨by simp [Sh.lvs], .inl rfl⟩
      · exact .inr ⟨by simp [Sh.lvs], .inr rfl⟩
    · rw [splS, if_neg e]
      refine ⟨hnd, fun x hx => .inl hx, ?_⟩
      rw [if_neg (by simp [Sh.lvs]; exact fun e' => e e'.symm)]
      rfl
  | rt j l r ihl ihr =>
    intro hnd hlt
    simp only [Sh.pre, List.nodup_cons, List.nodup_append] at hnd
    obtain ⟨hj, ndl, ndr, hd⟩ := hnd
    have ltl : ∀ y ∈ l.pre, y < n := fun y hy => hlt y (by simp [Sh.pre, hy])
    have ltr : ∀ y ∈ r.pre, y < n := fun y hy => hlt y (by simp [Sh.pre, hy])
    have hjn := hlt j (by simp [Sh.pre])
    obtain ⟨a1, a2, a3⟩ := ihl ndl ltl
    obtain ⟨b1, b2, b3⟩ := ihr ndr ltr
    have not2 : ¬ (i ∈ l.lvs ∧ i ∈ r.lvs) := fun ⟨h1, h2⟩ => hd i (lvs_pre l i h1) i (lvs_pre r i h2) rfl
    simp only [splS, Sh.pre, Sh.lvs, List.nodup_cons, List.nodup_append, List.mem_append, List.mem_cons, List.length_cons, List.length_append]
    refine ⟨⟨fun hh => ?_, a1, b1, fun x hx y hy e => ?_⟩, fun x hx => ?_, ?_⟩
    · rcases hh with hh | hh
      · rcases a2 j hh with h | ⟨_, h | h⟩
        · exact hj (List.mem_append_left _ h)
        · omega
        · omega
      · rcases b2 j hh with h | ⟨_, h | h⟩
        · exact hj (List.mem_append_right _ h)
        · omega
        · omega
    · subst e
      rcases a2 x hx with h | ⟨h0, h⟩
      · have := ltl x h
        rcases b2 x hy with h' | ⟨_, h'⟩
        · exact hd x h x h' rfl
        · omega
      · rcases b2 x hy with h' | ⟨h1, h'⟩
        · have := ltr x h'
          omega
        · exact not2 ⟨h0, h1⟩
    · rcases hx with hx | hx | hx
      · exact .inl (.inl hx)
      · rcases a2 x hx with h | ⟨h0, h⟩
        · exact .inl (.inr (.inl h))
        · exact .inr ⟨.inl h0, h⟩
      · rcases b2 x hx with h | ⟨h0, h⟩
        · exact .inl (.inr (.inr h))
        · exact .inr ⟨.inr h0, h⟩
    · rw [a3, b3]
      by_cases h1 : i ∈ l.lvs
      · have h2 : i ∉ r.lvs := fun h => not2 ⟨h1, h⟩
        simp [h1, h2]; omega
      · by_cases h2 : i ∈ r.lvs
        · simp [h1, h2]; omega
        · simp [h1, h2]
/-- A split of a tree is a tree, and says what it should. -/
theorem spl_tr {N : List Nd} {s : Sh} {t : Int} (h : Tr N s t) {i : Nat} (hi : i ∈ s.lvs) (h2 : 2 ≤ (nd N i).p.length) (hle : N.length + 2 ≤ 2000) :
    Tr (splN N i) (splS i N.length s) t ∧ ab (splN N i) (splS i N.length s) = splA N i s ∧ lay (splN N i) (splS i N.length s) 0 = (splA N i s).lay 0 := by
  have hr := (lf_plain h.hg i hi).1
  obtain ⟨h1, e⟩ := spl_hangs hr h2 h.hg
  obtain ⟨p1, _, p3⟩ := splS_pre (i := i) (n := N.length) h.nd (fun j hj => h.hg.lt j hj)
  rw [if_pos hi] at p3
  exact ⟨⟨by rw [splN_len]; exact hle, h1, p1, by rw [p3, splN_len, h.all]⟩, e, by rw [lay_ab 0 h1, e]⟩
end Go.Proofs.Ytijepfabkalcoaa

namespace Go.Proofs.Ytijepfabkalcoaa
set_option linter.all false

theorem AT.lay_p {T : AT} : ∀ {c : Nat}, ∀ n ∈ T.lay c, n.p.length ≤ T.all.length := by
  induction T with
  | lf p st => intro c n hn; simp [AT.lay] at hn; subst hn; exact Nat.le_refl _
  | rt k l r ihl ihr =>
    intro c n hn
    simp only [AT.lay, List.mem_cons, List.mem_append] at hn
    simp only [AT.all, List.length_append]
    rcases hn with rfl | hn | hn
    · simp
    · have := ihl n hn; omega
    · have := ihr n hn; omega
theorem dn_i_rt {N : List Nd} {key : Int} {j : Nat} {l r : Sh} : (dn N key (.rt j l r)).i = if (nd N j).k ≤ key then (dn N key r).i else (dn N key l).i := by
  simp only [dn]; split <;> rfl
end Go.Proofs.Ytijepfabkalcoaa

namespace Go.Proofs.Ytijepfabkalcoaa
set_option linter.all false

/-- A leaf's place in a tree that may be. -/
def LfAt (N : List Nd) (t y : Int) (s : Sh) (i : Nat) : Prop := Tr N s t ∧ y = (i : Int) ∧ i ∈ s.lvs
theorem LfAt.uniq {N : List Nd} {t y : Int} {s s' : Sh} {i i' : Nat} (h : LfAt N t y s i) (h' : LfAt N t y s' i') : s = s' ∧ i = i' := by
  obtain ⟨h1, h2, _⟩ := h
  obtain ⟨h1', h2', _⟩ := h'
  exact ⟨h1.uniq h1', by omega⟩
/-- Split's answer. -/
def SplO (N : List Nd) (t y : Int) (x : Bool) (Q : List Nd) : Prop :=
  (x = true ∧ ∃ s i, LfAt N t y s i ∧ 2 ≤ (nd N i).p.length ∧ N.length + 2 ≤ 2000 ∧ Q = (splA N i s).lay 0) ∨
  (x = false ∧ Q = [] ∧ ¬ ∃ s i, LfAt N t y s i ∧ 2 ≤ (nd N i).p.length ∧ N.length + 2 ≤ 2000)
theorem splO_ex (N : List Nd) (t y : Int) : ∃ x Q, SplO N t y x Q := by
  rcases Classical.em (∃ s i, LfAt N t y s i ∧ 2 ≤ (nd N i).p.length ∧ N.length + 2 ≤ 2000) with ⟨s, i, h⟩ | h
  · exact ⟨true, _, .inl ⟨rfl, s, i, h.1, h.2.1, h.2.2, rfl⟩⟩
  · exact ⟨false, [], .inr ⟨rfl, rfl, h⟩⟩
/-- Join's answer. -/
def JoiO (N : List Nd) (t y : Int) (x : Bool) (Q : List Nd) : Prop :=
  (x = true ∧ ∃ s i T, LfAt N t y s i ∧ isLf i s = false ∧ joinA N i s = some T ∧ Q = T.lay 0) ∨
  (x = false ∧ Q = [] ∧ ¬ ∃ s i, LfAt N t y s i ∧ isLf i s = false)
theorem joiO_ex (N : List Nd) (t y : Int) : ∃ x Q, JoiO N t y x Q := by
  rcases Classical.em (∃ s i, LfAt N t y s i ∧ isLf i s = false) with ⟨s, i, h, hl⟩ | h
  · obtain ⟨T, e, _⟩ := joinA_is h.1.hg h.2.2 hl
    exact ⟨true, _, .inl ⟨rfl, s, i, T, h, hl, e, rfl⟩⟩
  · exact ⟨false, [], .inr ⟨rfl, rfl, h⟩⟩
/-- Next's answer: k, or none. -/
def NxtO (N : List Nd) (t y : Int) (k : Option Nat) : Prop :=
  (∃ s i n, LfAt N t y s i ∧ isLf i s = false ∧ nextA i s = some n ∧ k = some n) ∨
  (k = none ∧ ¬ ∃ s i, LfAt N t y s i ∧ isLf i s = false)
theorem lvs_one {i : Nat} {s : Sh} (hi : i ∈ s.lvs) : isLf i s = false ↔ 1 < s.lvs.length := by
  cases s with
  | lf j =>
    simp [Sh.lvs] at hi
    subst hi
    simp [isLf, Sh.lvs]
  | rt j l r =>
    have h1 := lvs_pos l
    have h2 := lvs_pos r
    simp only [isLf, Sh.lvs, List.length_append, true_iff]
    omega
/-- What a split is: a tree that may be, with a leaf more, all pairs as they were. -/
theorem SplO.is {N : List Nd} {t y : Int} {Q : List Nd} (h : SplO N t y true Q) : ∃ s i s', LfAt N t y s i ∧ 2 ≤ (nd N i).p.length ∧ Q = (splA N i s).lay 0 ∧ s' = (splA N i s).sh 0 ∧ Tr Q s' 0 ∧ allP Q s'.lvs = allP N s.lvs ∧ s'.lvs.length = s.lvs.length + 1 ∧ Q.length = N.length + 2 := by
  rcases h with ⟨_, s, i, h, h2, hle, rfl⟩ | ⟨h, _⟩
  · have nl := lvs_nodup h.1.nd
    have hsz := splA_sz (N := N) nl h.2.2
    have hall := h.1.all
    exact ⟨s, i, _, h, h2, rfl, rfl, AT.tr (splA_ok h.1.hg h2) (by omega), by rw [AT.all_plain, splA_all], by rw [AT.sh_nl, splA_nl nl h.2.2], by rw [AT.lay_len]; omega⟩
  · cases h
theorem JoiO.is {N : List Nd} {t y : Int} {Q : List Nd} (h : JoiO N t y true Q) : ∃ s i T s', LfAt N t y s i ∧ isLf i s = false ∧ joinA N i s = some T ∧ Q = T.lay 0 ∧ s' = T.sh 0 ∧ Tr Q s' 0 ∧ allP Q s'.lvs = allP N s.lvs ∧ s'.lvs.length + 1 = s.lvs.length ∧ Q.length + 2 = N.length := by
  rcases h with ⟨_, s, i, T, h, hl, e, rfl⟩ | ⟨h, _⟩
  · obtain ⟨T', e', k1, k2, k3⟩ := joinA_is h.1.hg h.2.2 hl
    rw [e] at e'; cases e'
    have h1 := AT.sz_nl T
    have h2 := AT.sz_nl (ab N s)
    rw [ab_sz, ab_nl] at h2
    have hall := h.1.all
    have hle := h.1.le
    exact ⟨s, i, T, _, h, hl, e, rfl, rfl, AT.tr k1 (by omega), by rw [AT.all_plain, k2], by rw [AT.sh_nl]; exact k3, by rw [AT.lay_len]; omega⟩
  · cases h
end Go.Proofs.Ytijepfabkalcoaa

