/- Plain mathematics of trees of leaves, on: the plain order, other places, all pairs, the way down, a leaf anew, sums. No condition: definitions and lemmas. -/
import Derived.Test.YtlpjbgojijkdjaaTrM
namespace Go.Proofs.Ytlpjbgojijkdjaa
set_option linter.all false

def nd (N : List Nd) (i : Nat) : Nd := N.getD i Nd.z
theorem nd_of {N : List Nd} {i : Nat} {n : Nd} (h : N[i]? = some n) : nd N i = n := by simp [nd, List.getD, h]
theorem nd_get {N : List Nd} {i : Nat} (h : i < N.length) : N[i]? = some (nd N i) := by simp [nd, List.getD, List.getElem?_eq_getElem h]

/-- The nodes in their order. -/
def lay (N : List Nd) : Sh → Nat → List Nd
  | .lf i, _ => [nd N i]
  | .rt i l r, c => ⟨true, (nd N i).k, ((c + 1 : Nat) : Int), ((c + 1 + l.pre.length : Nat) : Int), [], 0⟩ :: (lay N l (c + 1) ++ lay N r (c + 1 + l.pre.length))
theorem lay_len (N : List Nd) : ∀ (s : Sh) (c : Nat), (lay N s c).length = s.pre.length := by
  intro s
  induction s with
  | lf i => intro c; rfl
  | rt i l r ihl ihr => intro c; simp [lay, Sh.pre, ihl, ihr]

def fixn (f : Nat → Nat) (n : Nd) : Nd := if n.r = true then ⟨true, n.k, (f n.a.toNat : Int), (f n.b.toNat : Int), n.p, n.s⟩ else n
theorem fixn_rt {f : Nat → Nat} {n : Nd} (h : n.r = true) : fixn f n = ⟨true, n.k, (f n.a.toNat : Int), (f n.b.toNat : Int), n.p, n.s⟩ := if_pos h
theorem fixn_lf {f : Nat → Nat} {n : Nd} (h : n.r = false) : fixn f n = n := if_neg (by rw [h]; decide)

theorem lay_map {N : List Nd} {f : Nat → Nat} : ∀ {s : Sh} {t : Int} {lo hi : Option Int} {c : Nat}, Hangs N s t lo hi → (∀ j x, s.pre[j]? = some x → f x = c + j) → lay N s c = s.pre.map (fun i => fixn f (nd N i)) := by
  intro s
  induction s with
  | lf i =>
    intro t lo hi c h hf
    obtain ⟨_, n, hn, hr, _⟩ := h
    simp only [lay, Sh.pre, List.map_cons, List.map_nil]
    rw [nd_of hn, fixn_lf hr]
  | rt i l r ihl ihr =>
    intro t lo hi c h hf
    obtain ⟨_, n, hn, hr, ho, hl, hrr⟩ := h
    have fl : ∀ j x, l.pre[j]? = some x → f x = c + 1 + j := fun j x hx => by
      have := hf (j + 1) x (by
        simp only [Sh.pre, List.getElem?_cons_succ]
        rw [List.getElem?_append_left (List.getElem?_eq_some_iff.1 hx).1]; exact hx)
      omega
    have fr : ∀ j x, r.pre[j]? = some x → f x = c + 1 + l.pre.length + j := fun j x hx => by
      have := hf (l.pre.length + j + 1) x (by
        simp only [Sh.pre, List.getElem?_cons_succ]
        rw [List.getElem?_append_right (by omega)]; rw [Nat.add_sub_cancel_left]; exact hx)
      omega
    have ea := hl.top
    have eb := hrr.top
    have e1 := fl 0 _ l.pre_top
    have e2 := fr 0 _ r.pre_top
    simp only [lay, Sh.pre, List.map_cons, List.map_append]
    rw [ihl hl fl, ihr hrr fr, nd_of hn, fixn_rt hr, ea, eb, ho.1, ho.2.1]
    simp only [Int.toNat_natCast]
    rw [e1, e2]
    rfl
theorem nodup_at {l : List Nat} (h : l.Nodup) {i j x : Nat} (hi : l[i]? = some x) (hj : l[j]? = some x) : i = j := by
  obtain ⟨a, ea⟩ := List.getElem?_eq_some_iff.1 hi
  obtain ⟨b, eb⟩ := List.getElem?_eq_some_iff.1 hj
  exact (List.getElem_inj h).1 (ea.trans eb.symm)

/-! ### Other places -/

def Sh.map (f : Nat → Nat) : Sh → Sh
  | .lf i => .lf (f i)
  | .rt i l r => .rt (f i) (l.map f) (r.map f)
theorem Sh.pre_map (f : Nat → Nat) (s : Sh) : (s.map f).pre = s.pre.map f := by
  induction s with
  | lf i => rfl
  | rt i l r ihl ihr => simp [Sh.map, Sh.pre, ihl, ihr]
theorem Sh.lvs_map (f : Nat → Nat) (s : Sh) : (s.map f).lvs = s.lvs.map f := by
  induction s with
  | lf i => rfl
  | rt i l r ihl ihr => simp [Sh.map, Sh.lvs, ihl, ihr]
theorem Sh.top_map (f : Nat → Nat) (s : Sh) : (s.map f).top = f s.top := by cases s <;> rfl
/-- M is N at other places. -/
def Moved (f : Nat → Nat) (N M : List Nd) (s : Sh) : Prop := ∀ i ∈ s.pre, ∀ n, N[i]? = some n → M[f i]? = some (fixn f n)
theorem Moved.left {f : Nat → Nat} {N M : List Nd} {i : Nat} {l r : Sh} (h : Moved f N M (.rt i l r)) : Moved f N M l := fun j hj => h j (by simp [Sh.pre, hj])
theorem Moved.right {f : Nat → Nat} {N M : List Nd} {i : Nat} {l r : Sh} (h : Moved f N M (.rt i l r)) : Moved f N M r := fun j hj => h j (by simp [Sh.pre, hj])
theorem hangs_map {f : Nat → Nat} {N M : List Nd} : ∀ {s : Sh} {t : Int} {lo hi : Option Int}, Moved f N M s → Hangs N s t lo hi → Hangs M (s.map f) ((f s.top : Nat) : Int) lo hi := by
  intro s
  induction s with
  | lf i =>
    intro t lo hi hm h
    obtain ⟨_, n, hn, hr, ho⟩ := h
    have := hm i (by simp [Sh.pre]) n hn
    rw [fixn_lf hr] at this
    exact ⟨rfl, n, this, hr, ho⟩
  | rt i l r ihl ihr =>
    intro t lo hi hm h
    obtain ⟨_, n, hn, hr, ho, hl, hrr⟩ := h
    have := hm i (by simp [Sh.pre]) n hn
    rw [fixn_rt hr] at this
    refine ⟨rfl, _, this, rfl, ⟨ho.1, ho.2.1, ho.2.2.1, ho.2.2.2⟩, ?_, ?_⟩
    · have e := hl.top
      dsimp only
      rw [e, Int.toNat_natCast]
      exact ihl hm.left hl
    · have e := hrr.top
      dsimp only
      rw [e, Int.toNat_natCast]
      exact ihr hm.right hrr
theorem lay_moved {f : Nat → Nat} {N M : List Nd} : ∀ {s : Sh} {t : Int} {lo hi : Option Int} {c : Nat}, Moved f N M s → Hangs N s t lo hi → lay M (s.map f) c = lay N s c := by
  intro s
  induction s with
  | lf i =>
    intro t lo hi c hm h
    obtain ⟨_, n, hn, hr, ho⟩ := h
    have := hm i (by simp [Sh.pre]) n hn
    rw [fixn_lf hr] at this
    simp only [lay, Sh.map]
    rw [nd_of hn, nd_of this]
  | rt i l r ihl ihr =>
    intro t lo hi c hm h
    obtain ⟨_, n, hn, hr, ho, hl, hrr⟩ := h
    have := hm i (by simp [Sh.pre]) n hn
    rw [fixn_rt hr] at this
    simp only [lay, Sh.map]
    rw [nd_of hn, nd_of this, ihl hm.left hl, ihr hm.right hrr, Sh.pre_map, List.length_map]

/-! ### All pairs -/

def allP (N : List Nd) (l : List Nat) : List Pr := (l.map (fun i => (nd N i).p)).flatten
theorem allP_app (N : List Nd) (l l' : List Nat) : allP N (l ++ l') = allP N l ++ allP N l' := by simp [allP]
theorem allP_one (N : List Nd) (i : Nat) : allP N [i] = (nd N i).p := by simp [allP]
theorem allP_take {N : List Nd} {l : List Nat} {j i : Nat} (h : l[j]? = some i) : allP N (l.take (j + 1)) = allP N (l.take j) ++ (nd N i).p := by
  have e : l.take (j + 1) = l.take j ++ [i] := by rw [List.take_succ, h]; rfl
  rw [e, allP_app, allP_one]
theorem allP_moved {f : Nat → Nat} {N M : List Nd} : ∀ {s : Sh} {t : Int} {lo hi : Option Int}, Moved f N M s → Hangs N s t lo hi → allP M (s.map f).lvs = allP N s.lvs := by
  intro s
  induction s with
  | lf i =>
    intro t lo hi hm h
    obtain ⟨_, n, hn, hr, ho⟩ := h
    have := hm i (by simp [Sh.pre]) n hn
    rw [fixn_lf hr] at this
    simp only [Sh.map, Sh.lvs, allP_one]
    rw [nd_of hn, nd_of this]
  | rt i l r ihl ihr =>
    intro t lo hi hm h
    obtain ⟨_, n, hn, hr, ho, hl, hrr⟩ := h
    simp only [Sh.map, Sh.lvs, allP_app]
    rw [ihl hm.left hl, ihr hm.right hrr]
theorem inS_left {lo hi : Option Int} {k q : Int} (h : inS lo hi k) (hq : inS lo (some k) q) : inS lo hi q :=
  ⟨hq.1, fun y hy => by have := hq.2 k rfl; have := h.2 y hy; omega⟩
theorem inS_right {lo hi : Option Int} {k q : Int} (h : inS lo hi k) (hq : inS (some k) hi q) : inS lo hi q :=
  ⟨fun x hx => by have := hq.1 k rfl; have := h.1 x hx; omega, hq.2⟩
theorem allP_srt {N : List Nd} : ∀ {s : Sh} {t : Int} {lo hi : Option Int}, Hangs N s t lo hi → Srt (allP N s.lvs) ∧ ∀ q ∈ allP N s.lvs, inS lo hi q.1 := by
  intro s
  induction s with
  | lf i =>
    intro t lo hi h
    obtain ⟨_, n, hn, hr, ho⟩ := h
    simp only [Sh.lvs, allP_one]
    rw [nd_of hn]
    exact ⟨ho.2.2.2.2.2.1, ho.2.2.2.2.2.2⟩
  | rt i l r ihl ihr =>
    intro t lo hi h
    obtain ⟨_, n, hn, hr, ho, hl, hrr⟩ := h
    obtain ⟨s1, m1⟩ := ihl hl
    obtain ⟨s2, m2⟩ := ihr hrr
    simp only [Sh.lvs, allP_app]
    refine ⟨?_, fun q hq => ?_⟩
    · unfold Srt
      rw [List.pairwise_append]
      exact ⟨s1, s2, fun a ha b hb => by
        have h1 := (m1 a ha).2 n.k rfl
        have h2 := (m2 b hb).1 n.k rfl
        omega⟩
    · rcases List.mem_append.1 hq with hq | hq
      · exact inS_left ho.2.2.1 (m1 q hq)
      · exact inS_right ho.2.2.1 (m2 q hq)
theorem lvs_pos (s : Sh) : 0 < s.lvs.length := by
  induction s with
  | lf i => simp [Sh.lvs]
  | rt i l r ihl _ => simp [Sh.lvs]; omega
theorem lvs_pre (s : Sh) : ∀ i ∈ s.lvs, i ∈ s.pre := by
  induction s with
  | lf i => intro j hj; exact hj
  | rt i l r ihl ihr =>
    intro j hj
    simp [Sh.lvs] at hj
    simp [Sh.pre]
    rcases hj with hj | hj
    · exact .inr (.inl (ihl j hj))
    · exact .inr (.inr (ihr j hj))
theorem lvs_len (s : Sh) : s.lvs.length ≤ s.pre.length := by
  induction s with
  | lf i => simp [Sh.lvs, Sh.pre]
  | rt i l r ihl ihr => simp [Sh.lvs, Sh.pre]; omega
/-- The leaves are those of the nodes that are no routes. -/
theorem lvs_filter {N : List Nd} : ∀ {s : Sh} {t : Int} {lo hi : Option Int}, Hangs N s t lo hi → s.lvs = s.pre.filter (fun i => !(nd N i).r) := by
  intro s
  induction s with
  | lf i =>
    intro t lo hi h
    obtain ⟨_, n, hn, hr, ho⟩ := h
    simp [Sh.lvs, Sh.pre, nd_of hn, hr]
  | rt i l r ihl ihr =>
    intro t lo hi h
    obtain ⟨_, n, hn, hr, ho, hl, hrr⟩ := h
    simp only [Sh.lvs, Sh.pre]
    rw [List.filter_cons_of_neg (by simp [nd_of hn, hr]), List.filter_append, ← ihl hl, ← ihr hrr]
theorem hangs_leaf {N : List Nd} : ∀ {s : Sh} {t : Int} {lo hi : Option Int}, Hangs N s t lo hi → ∀ i ∈ s.pre, ∃ n lo' hi', N[i]? = some n ∧ (n.r = false → okL n lo' hi') ∧ (n.r = true → okR n lo' hi') := by
  intro s
  induction s with
  | lf i =>
    intro t lo hi h j hj
    obtain ⟨_, n, hn, hr, ho⟩ := h
    simp [Sh.pre] at hj
    subst hj
    exact ⟨n, lo, hi, hn, fun _ => ho, fun h => absurd (hr.symm.trans h) (by decide)⟩
  | rt i l r ihl ihr =>
    intro t lo hi h j hj
    obtain ⟨_, n, hn, hr, ho, hl, hrr⟩ := h
    simp [Sh.pre] at hj
    rcases hj with rfl | hj | hj
    · exact ⟨n, lo, hi, hn, fun h => absurd (hr.symm.trans h) (by decide), fun _ => ho⟩
    · exact ihl hl j hj
    · exact ihr hrr j hj
theorem lf_mem {N : List Nd} {s : Sh} {t : Int} {lo hi : Option Int} (h : Hangs N s t lo hi) {i : Nat} {n : Nd} (hi' : i ∈ s.pre) (hn : N[i]? = some n) (hr : n.r = false) : i ∈ s.lvs := by
  rw [lvs_filter h]
  exact List.mem_filter.2 ⟨hi', by rw [nd_of hn, hr]; rfl⟩

/-! ### The way down -/

structure Dn where
  i : Nat
  u : List Nat
  d : List Bool
def dn (N : List Nd) (k : Int) : Sh → Dn
  | .lf i => ⟨i, [], []⟩
  | .rt i l r => if (nd N i).k ≤ k then ⟨(dn N k r).i, i :: (dn N k r).u, true :: (dn N k r).d⟩ else ⟨(dn N k l).i, i :: (dn N k l).u, false :: (dn N k l).d⟩
theorem dn_len (N : List Nd) (k : Int) (s : Sh) : (dn N k s).d.length = (dn N k s).u.length := by
  induction s with
  | lf i => rfl
  | rt i l r ihl ihr => rw [dn]; split <;> simp [ihl, ihr]
theorem dn_lvs (N : List Nd) (k : Int) (s : Sh) : (dn N k s).i ∈ s.lvs := by
  induction s with
  | lf i => simp [dn, Sh.lvs]
  | rt i l r ihl ihr => rw [dn]; split <;> simp [Sh.lvs, ihl, ihr]
theorem dn_ulen (N : List Nd) (k : Int) (s : Sh) : (dn N k s).u.length < s.pre.length := by
  induction s with
  | lf i => simp [dn, Sh.pre]
  | rt i l r ihl ihr => rw [dn]; split <;> simp [Sh.pre] <;> omega
/-- A key may stand in the leaf i. -/
def InLf (N : List Nd) : Sh → Option Int → Option Int → Nat → Int → Prop
  | .lf j, lo, hi, i, k => i = j ∧ inS lo hi k
  | .rt j l r, lo, hi, i, k => InLf N l lo (some (nd N j).k) i k ∨ InLf N r (some (nd N j).k) hi i k
theorem InLf.ins {N : List Nd} : ∀ {s : Sh} {t : Int} {lo hi : Option Int} {i : Nat} {k : Int}, Hangs N s t lo hi → InLf N s lo hi i k → inS lo hi k := by
  intro s
  induction s with
  | lf j => intro t lo hi i k _ h; exact h.2
  | rt j l r ihl ihr =>
    intro t lo hi i k hh h
    obtain ⟨_, n, hn, hr, ho, hl, hrr⟩ := hh
    simp only [InLf, nd_of hn] at h
    rcases h with h | h
    · exact inS_left ho.2.2.1 (ihl hl h)
    · exact inS_right ho.2.2.1 (ihr hrr h)
theorem InLf.mem {N : List Nd} : ∀ {s : Sh} {lo hi : Option Int} {i : Nat} {k : Int}, InLf N s lo hi i k → i ∈ s.lvs := by
  intro s
  induction s with
  | lf j => intro lo hi i k h; simp [Sh.lvs, h.1]
  | rt j l r ihl ihr =>
    intro lo hi i k h
    simp only [Sh.lvs, List.mem_append]
    exact h.imp ihl ihr
theorem inLf_dn {N : List Nd} : ∀ {s : Sh} {t : Int} {lo hi : Option Int} {i : Nat} {k : Int}, Hangs N s t lo hi → inS lo hi k → (InLf N s lo hi i k ↔ i = (dn N k s).i) := by
  intro s
  induction s with
  | lf j => intro t lo hi i k _ h; exact ⟨fun hh => hh.1, fun hh => ⟨hh, h⟩⟩
  | rt j l r ihl ihr =>
    intro t lo hi i k hh h
    obtain ⟨_, n, hn, hr, ho, hl, hrr⟩ := hh
    simp only [InLf, dn, nd_of hn]
    by_cases hk : n.k ≤ k
    · rw [if_pos hk]
      dsimp only
      rw [← ihr hrr ⟨fun x hx => by cases hx; exact hk, h.2⟩]
      exact ⟨fun hx => hx.elim (fun h' => absurd ((h'.ins hl).2 n.k rfl) (by omega)) id, .inr⟩
    · rw [if_neg hk]
      dsimp only
      rw [← ihl hl ⟨h.1, fun x hx => by cases hx; omega⟩]
      exact ⟨fun hx => hx.elim id (fun h' => absurd ((h'.ins hrr).1 n.k rfl) hk), .inl⟩
theorem inS_any (k : Int) : inS none none k := ⟨fun _ h => (by cases h), fun _ h => (by cases h)⟩
theorem inLf_own {N : List Nd} : ∀ {s : Sh} {t : Int} {lo hi : Option Int}, Hangs N s t lo hi → ∀ i ∈ s.lvs, ∀ q ∈ (nd N i).p, InLf N s lo hi i q.1 := by
  intro s
  induction s with
  | lf j =>
    intro t lo hi h i hi' q hq
    obtain ⟨_, n, hn, hr, ho⟩ := h
    simp [Sh.lvs] at hi'
    subst hi'
    rw [nd_of hn] at hq
    exact ⟨rfl, ho.2.2.2.2.2.2 q hq⟩
  | rt j l r ihl ihr =>
    intro t lo hi h i hi' q hq
    obtain ⟨_, n, hn, hr, ho, hl, hrr⟩ := h
    simp only [InLf, nd_of hn]
    simp only [Sh.lvs, List.mem_append] at hi'
    exact hi'.imp (fun h' => ihl hl i h' q hq) (fun h' => ihr hrr i h' q hq)

/-! ### A leaf anew -/

theorem hangs_other {N : List Nd} {i : Nat} {m : Nd} : ∀ {s : Sh} {t : Int} {lo hi : Option Int}, i ∉ s.pre → (Hangs (N.set i m) s t lo hi ↔ Hangs N s t lo hi) := by
  intro s
  induction s with
  | lf j =>
    intro t lo hi hi'
    simp [Sh.pre] at hi'
    simp only [Hangs]
    rw [List.getElem?_set_ne (by omega)]
  | rt j l r ihl ihr =>
    intro t lo hi hi'
    simp [Sh.pre] at hi'
    obtain ⟨h0, h1, h2⟩ := hi'
    simp only [Hangs]
    rw [List.getElem?_set_ne (by omega)]
    constructor
    · rintro ⟨e, n, hn, hr, ho, hl, hrr⟩
      exact ⟨e, n, hn, hr, ho, (ihl h1).1 hl, (ihr h2).1 hrr⟩
    · rintro ⟨e, n, hn, hr, ho, hl, hrr⟩
      exact ⟨e, n, hn, hr, ho, (ihl h1).2 hl, (ihr h2).2 hrr⟩
theorem hangs_set {N : List Nd} {i : Nat} {l : List Pr} {st : Int} (hi : i < N.length) : ∀ {s : Sh} {t : Int} {lo hi : Option Int}, Hangs N s t lo hi → s.pre.Nodup → i ∈ s.lvs →
    (Hangs (N.set i ⟨false, 0, 0, 0, l, st⟩) s t lo hi ↔ (-1000000 ≤ st ∧ st ≤ 1000000 ∧ Srt l ∧ ∀ q ∈ l, InLf N s lo hi i q.1)) := by
  intro s
  induction s with
  | lf j =>
    intro t lo hi' h _ hm
    obtain ⟨e, n, hn, hr, ho⟩ := h
    simp [Sh.lvs] at hm
    subst hm
    simp only [Hangs, List.getElem?_set_self hi, InLf]
    constructor
    · rintro ⟨_, m, hm, _, ho'⟩
      cases hm
      exact ⟨ho'.2.2.2.1, ho'.2.2.2.2.1, ho'.2.2.2.2.2.1, fun q hq => ⟨by trivial, ho'.2.2.2.2.2.2 q hq⟩⟩
    · rintro ⟨h1, h2, h3, h4⟩
      exact ⟨e, _, rfl, rfl, rfl, rfl, rfl, h1, h2, h3, fun q hq => (h4 q hq).2⟩
  | rt j l' r ihl ihr =>
    intro t lo hi' h hnd hm
    obtain ⟨e, n, hn, hr, ho, hl, hrr⟩ := h
    simp only [Sh.pre, List.nodup_cons, List.mem_append, List.nodup_append] at hnd
    obtain ⟨h1, h2, h3, h4⟩ := hnd
    simp only [Sh.lvs, List.mem_append] at hm
    have hji : j ≠ i := fun e => h1 (by subst e; exact hm.imp (lvs_pre _ _) (lvs_pre _ _))
    simp only [Hangs, InLf, nd_of hn]
    rw [List.getElem?_set_ne (fun e => hji e.symm)]
    rcases hm with hm | hm
    · have nr : i ∉ r.pre := fun hh => h4 i (lvs_pre _ _ hm) i hh rfl
      rw [show (∀ q ∈ l, InLf N l' lo (some n.k) i q.1 ∨ InLf N r (some n.k) hi' i q.1) ↔ (∀ q ∈ l, InLf N l' lo (some n.k) i q.1) from
        ⟨fun hh q hq => (hh q hq).elim id (fun h' => absurd (lvs_pre _ _ h'.mem) nr), fun hh q hq => .inl (hh q hq)⟩]
      rw [← ihl hl h2 hm]
      constructor
      · rintro ⟨_, m, hm', _, _, hl', _⟩
        rw [hn] at hm'; cases hm'
        exact hl'
      · intro hl'
        exact ⟨e, n, hn, hr, ho, hl', (hangs_other nr).2 hrr⟩
    · have nl : i ∉ l'.pre := fun hh => h4 i hh i (lvs_pre _ _ hm) rfl
      rw [show (∀ q ∈ l, InLf N l' lo (some n.k) i q.1 ∨ InLf N r (some n.k) hi' i q.1) ↔ (∀ q ∈ l, InLf N r (some n.k) hi' i q.1) from
        ⟨fun hh q hq => (hh q hq).elim (fun h' => absurd (lvs_pre _ _ h'.mem) nl) id, fun hh q hq => .inr (hh q hq)⟩]
      rw [← ihr hrr h3 hm]
      constructor
      · rintro ⟨_, m, hm', _, _, _, hr'⟩
        rw [hn] at hm'; cases hm'
        exact hr'
      · intro hr'
        exact ⟨e, n, hn, hr, ho, (hangs_other nl).2 hl, hr'⟩

/-! ### Sums -/

def sumZ (f : Nat → Int) : List Nat → Int
  | [] => 0
  | i :: l => f i + sumZ f l
theorem sumZ_app (f : Nat → Int) (l l' : List Nat) : sumZ f (l ++ l') = sumZ f l + sumZ f l' := by
  induction l with
  | nil => simp [sumZ]
  | cons i l ih => simp only [List.cons_append, sumZ, ih]; omega
theorem sumZ_perm (f : Nat → Int) {l l' : List Nat} (h : l.Perm l') : sumZ f l = sumZ f l' := by
  induction h with
  | nil => rfl
  | cons x _ ih => simp only [sumZ, ih]
  | swap x y l => simp only [sumZ]; omega
  | trans _ _ ih1 ih2 => exact ih1.trans ih2
theorem sumZ_range (f : Nat → Int) (n : Nat) : sumZ f (List.range (n + 1)) = sumZ f (List.range n) + f n := by
  rw [List.range_succ, sumZ_app]; simp [sumZ]
theorem sumZ_but {f g : Nat → Int} {i : Nat} (h : ∀ j, j ≠ i → f j = g j) (n : Nat) : sumZ f (List.range n) - sumZ g (List.range n) = if i < n then f i - g i else 0 := by
  induction n with
  | zero => simp [sumZ]
  | succ n ih =>
    rw [sumZ_range, sumZ_range]
    by_cases e : n = i
    · subst e
      rw [if_neg (by omega)] at ih
      rw [if_pos (by omega)]
      omega
    · have := h n e
      by_cases hl : i < n
      · rw [if_pos hl] at ih; rw [if_pos (by omega)]; omega
      · rw [if_neg hl] at ih; rw [if_neg (by omega)]; omega
/-- What hangs on the nodes. -/
def edg (N : List Nd) (i : Nat) : Int := if (nd N i).r = true then (nd N i).a + (nd N i).b else 0
theorem edg_pre {N : List Nd} : ∀ {s : Sh} {t : Int} {lo hi : Option Int}, Hangs N s t lo hi → sumZ (edg N) s.pre + t = sumZ (fun i => (i : Int)) s.pre := by
  intro s
  induction s with
  | lf i =>
    intro t lo hi h
    obtain ⟨e, n, hn, hr, _⟩ := h
    simp [Sh.pre, sumZ, edg, nd_of hn, hr, e]
  | rt i l r ihl ihr =>
    intro t lo hi h
    obtain ⟨e, n, hn, hr, _, hl, hrr⟩ := h
    have h1 := ihl hl
    have h2 := ihr hrr
    simp only [Sh.pre, sumZ, sumZ_app]
    simp only [edg, nd_of hn, hr, if_true] at *
    have h3 : sumZ (edg N) l.pre + n.a = sumZ (fun i => (i : Int)) l.pre := h1
    have h4 : sumZ (edg N) r.pre + n.b = sumZ (fun i => (i : Int)) r.pre := h2
    omega
theorem Tr.edges {N : List Nd} {s : Sh} {t : Int} (h : Tr N s t) : sumZ (edg N) (List.range N.length) + t = sumZ (fun i => (i : Int)) (List.range N.length) := by
  rw [← sumZ_perm _ h.perm, ← sumZ_perm _ h.perm]
  exact edg_pre h.hg
/-- With another left side it is no tree. -/
theorem tr_spoilt {N : List Nd} {s s' : Sh} {t : Int} (h : Tr N s t) {i : Nat} {n : Nd} (hn : N[i]? = some n) (hr : n.r = true) {x : Int} (hx : x ≠ n.a) : ¬ Tr (N.set i ⟨n.r, n.k, x, n.b, n.p, n.s⟩) s' t := fun h' => by
  have hi := (List.getElem?_eq_some_iff.1 hn).1
  have e1 := h.edges
  have e2 := h'.edges
  rw [List.length_set] at e2
  have e3 := sumZ_but (f := edg (N.set i ⟨n.r, n.k, x, n.b, n.p, n.s⟩)) (g := edg N) (i := i) (fun j hj => by
    unfold edg nd
    rw [List.getD_eq_getElem?_getD, List.getElem?_set_ne (fun e => hj e.symm), ← List.getD_eq_getElem?_getD]) N.length
  rw [if_pos hi] at e3
  have e4 : edg N i = n.a + n.b := by unfold edg; rw [nd_of hn, if_pos hr]
  have e5 : edg (N.set i ⟨n.r, n.k, x, n.b, n.p, n.s⟩) i = x + n.b := by
    unfold edg
    rw [nd_of (List.getElem?_set_self hi)]
    rw [if_pos hr]
  omega
/-- With a node more it is no tree. -/
theorem tr_more {N : List Nd} {s s' : Sh} {t : Int} (h : Tr N s t) (z : Nd) : ¬ Tr (N ++ [z]) s' t := fun h' => by
  have e : s = s' := h.hg.one (M := N ++ [z]) (fun i n m hn hm => by
    rw [List.getElem?_append_left (List.getElem?_eq_some_iff.1 hn).1, hn] at hm
    cases hm
    exact ⟨rfl, fun _ => ⟨rfl, rfl⟩⟩) h'.hg
  have h1 := h.all
  have h2 := h'.all
  rw [← e] at h2
  simp at h2
  omega
/-- Leaves are one more than routes. -/
theorem lvs_routes {N : List Nd} : ∀ {s : Sh} {t : Int} {lo hi : Option Int}, Hangs N s t lo hi → (s.lvs.length : Int) = sumZ (fun i => if (nd N i).r = true then 1 else 0) s.pre + 1 := by
  intro s
  induction s with
  | lf i =>
    intro t lo hi h
    obtain ⟨e, n, hn, hr, _⟩ := h
    simp [Sh.pre, Sh.lvs, sumZ, nd_of hn, hr]
  | rt i l r ihl ihr =>
    intro t lo hi h
    obtain ⟨e, n, hn, hr, _, hl, hrr⟩ := h
    have h1 := ihl hl
    have h2 := ihr hrr
    simp only [Sh.pre, Sh.lvs, sumZ, sumZ_app, List.length_append]
    rw [nd_of hn, if_pos hr]
    omega
theorem allP_sum {N : List Nd} : ∀ {s : Sh} {t : Int} {lo hi : Option Int}, Hangs N s t lo hi → ((allP N s.lvs).length : Int) = sumZ (fun i => ((nd N i).p.length : Int)) s.pre := by
  intro s
  induction s with
  | lf i =>
    intro t lo hi h
    simp [Sh.pre, Sh.lvs, sumZ, allP_one]
  | rt i l r ihl ihr =>
    intro t lo hi h
    obtain ⟨e, n, hn, hr, ho, hl, hrr⟩ := h
    have h1 := ihl hl
    have h2 := ihr hrr
    simp only [Sh.pre, Sh.lvs, sumZ, sumZ_app, allP_app, List.length_append]
    rw [nd_of hn, ho.1]
    simp only [List.length_nil]
    omega
end Go.Proofs.Ytlpjbgojijkdjaa
