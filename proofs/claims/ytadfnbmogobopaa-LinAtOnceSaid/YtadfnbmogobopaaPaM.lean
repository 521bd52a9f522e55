/- Histories: events gone through, calls, what follows (plain mathematics). No condition: definitions and lemmas. -/
import Derived.Test.YtadfnbmogobopaaLfO
namespace Go.Proofs.Ytadfnbmogobopaa
set_option linter.all false

instance opdDec : DecidableEq OpD := fun a b => decidable_of_iff (a.c = b.c ∧ a.k = b.k ∧ a.h = b.h ∧ a.v = b.v) (by cases a; cases b; simp)
instance adDec : DecidableEq Ad := fun a b => decidable_of_iff (a.err = b.err ∧ a.ok = b.ok ∧ a.k = b.k ∧ a.v = b.v ∧ a.n = b.n ∧ a.ps = b.ps) (by cases a; cases b; simp)

/-- An event. -/
structure EvD where
  t : Int
  r : Bool
  o : OpD
  a : Ad
/-- A call: its thread, where it began, where it returned (-1: it has not), its operation, what it was told. -/
structure ClD where
  t : Int
  f : Int
  g : Int
  o : OpD
  a : Ad
def zOp : OpD := ⟨0, 0, 0, 0⟩
def zAd : Ad := ⟨0, false, 0, 0, 0, []⟩
def zCl : ClD := ⟨0, 0, 0, zOp, zAd⟩
def zEv : EvD := ⟨0, false, zOp, zAd⟩
instance evInh : Inhabited EvD := ⟨zEv⟩
instance clInh : Inhabited ClD := ⟨zCl⟩
/-- Of each thread how many calls had begun with the one that it waits for; the calls. -/
structure Mt where
  w : List Nat
  l : List ClD
def Mt.x (s : Mt) (t : Int) : Nat := s.w.getD t.toNat 0
def Mt.c (s : Mt) (x : Nat) : ClD := s.l.getD (x - 1) zCl
def Mt.z : Mt := ⟨[0, 0, 0, 0, 0, 0], []⟩
/-- An event returns, begins. -/
def Mt.rets (s : Mt) (e : EvD) : Prop := e.r = true ∧ 0 < s.x e.t ∧ (s.c (s.x e.t)).o = e.o
def Mt.begs (s : Mt) (e : EvD) : Prop := e.r = false ∧ s.x e.t = 0 ∧ okOp e.o.c ∧ e.a = zAd
instance (s : Mt) (e : EvD) : Decidable (s.rets e) := by unfold Mt.rets; infer_instance
instance (s : Mt) (e : EvD) : Decidable (s.begs e) := by unfold Mt.begs; infer_instance
def okT (t : Int) : Prop := 0 ≤ t ∧ t < 6
instance (t : Int) : Decidable (okT t) := by unfold okT; infer_instance
def Mt.ret (s : Mt) (n : Nat) (e : EvD) : Mt := ⟨s.w.set e.t.toNat 0, s.l.set (s.x e.t - 1) { s.c (s.x e.t) with g := (n : Int), a := e.a }⟩
def Mt.beg (s : Mt) (n : Nat) (e : EvD) : Mt := ⟨s.w.set e.t.toNat (s.l.length + 1), s.l ++ [⟨e.t, (n : Int), -1, e.o, zAd⟩]⟩
def stp (s : Mt) (n : Nat) (e : EvD) : Option Mt :=
  if okT e.t then (if s.rets e then some (s.ret n e) else if s.begs e then some (s.beg n e) else none) else none
/-- The first n events of a history, gone through. -/
def mtc (h : List EvD) : Nat → Option Mt
  | 0 => some Mt.z
  | n + 1 => (mtc h n).bind fun s => stp s n (h.getD n zEv)
theorem mtc_succ {h : List EvD} {n : Nat} : mtc h (n + 1) = (mtc h n).bind fun s => stp s n (h.getD n zEv) := rfl
theorem mtc_none {h : List EvD} {n : Nat} (e : mtc h n = none) : ∀ k, n ≤ k → mtc h k = none := by
  intro k hk
  induction k with
  | zero => rw [show n = 0 by omega] at e; exact e
  | succ k ih =>
    by_cases c : n = k + 1
    · rw [← c]; exact e
    · rw [mtc_succ, ih (by omega)]; rfl
theorem mtc_some {h : List EvD} {n : Nat} {s : Mt} (e : mtc h n = some s) (k : Nat) (hk : k ≤ n) : ∃ s', mtc h k = some s' := by
  cases c : mtc h k with
  | some s' => exact ⟨s', rfl⟩
  | none => rw [mtc_none c n hk] at e; cases e
theorem mtc_app (h h' : List EvD) : ∀ n, n ≤ h.length → mtc (h ++ h') n = mtc h n := by
  intro n
  induction n with
  | zero => intro _; rfl
  | succ n ih =>
    intro hn
    rw [mtc_succ, mtc_succ, ih (by omega)]
    congr 1
    funext s
    rw [List.getD_eq_getElem?_getD, List.getElem?_append_left (by omega), ← List.getD_eq_getElem?_getD]
theorem mtc_take (h : List EvD) (k : Nat) (hk : k ≤ h.length) : mtc (h.take k) k = mtc h k := by
  have := mtc_app (h.take k) (h.drop k) k (by rw [List.length_take]; omega)
  rw [List.take_append_drop] at this
  exact this.symm
/-- All of it. -/
def mtch (h : List EvD) : Option Mt := mtc h h.length
theorem mt_take (h : List EvD) (k : Nat) (hk : k ≤ h.length) : mtch (h.take k) = mtc h k := by
  unfold mtch
  rw [List.length_take, Nat.min_eq_left hk, mtc_take h k hk]
theorem mt_snoc (h : List EvD) (e : EvD) : mtch (h ++ [e]) = (mtch h).bind fun s => stp s h.length e := by
  unfold mtch
  rw [List.length_append, List.length_singleton, mtc_succ, mtc_app h [e] h.length (Nat.le_refl _)]
  congr 1
  funext s
  congr 1
  rw [List.getD_eq_getElem?_getD, List.getElem?_append_right (Nat.le_refl _)]
  simp
/-- A beginning; a return. -/
def cntB (h : List EvD) : Nat → Nat
  | 0 => 0
  | n + 1 => cntB h n + (if (h.getD n zEv).r = true then 0 else 1)
def cntR (h : List EvD) : Nat → Nat
  | 0 => 0
  | n + 1 => cntR h n + (if (h.getD n zEv).r = true then 1 else 0)
theorem cnt_le (h : List EvD) : ∀ n, cntB h n ≤ n ∧ cntR h n ≤ n := by
  intro n
  induction n with
  | zero => exact ⟨Nat.le_refl _, Nat.le_refl _⟩
  | succ n ih => simp only [cntB, cntR]; constructor <;> split <;> omega
/-- The last place at which the thread began a call that it waits for; -1. -/
def onn (h : List EvD) (t : Int) : Nat → Int
  | 0 => -1
  | n + 1 => if (h.getD n zEv).t = t then (if (h.getD n zEv).r = true then -1 else (n : Int)) else onn h t n
/-- Where a call stands. -/
def Has (h : List EvD) (n : Nat) (s : Mt) (i : Nat) (c : ClD) : Prop :=
  okT c.t ∧ (∃ e : EvD, ∃ p : Nat, c.f = (p : Int) ∧ p < n ∧ h.getD p zEv = e ∧ e.r = false ∧ e.t = c.t ∧ e.o = c.o) ∧
  ((c.g = -1 ∧ s.x c.t = i + 1 ∧ c.a = zAd) ∨ ((s.x c.t ≠ i + 1) ∧ ∃ q : Nat, c.g = (q : Int) ∧ c.f < c.g ∧ q < n ∧ (h.getD q zEv).r = true ∧ (h.getD q zEv).a = c.a))
def rtd (l : List ClD) : Nat := (l.filter (fun c => decide (0 ≤ c.g))).length
structure MInv (h : List EvD) (n : Nat) (s : Mt) : Prop where
  len : s.w.length = 6
  wt : ∀ t : Int, okT t → s.x t = 0 ∧ onn h t n = -1 ∨ ∃ i c, s.x t = i + 1 ∧ s.l[i]? = some c ∧ c.t = t ∧ c.g = -1 ∧ onn h t n = c.f
  has : ∀ (i : Nat) (c : ClD), s.l[i]? = some c → Has h n s i c
  ord : ∀ (i j : Nat) (c d : ClD), i < j → s.l[i]? = some c → s.l[j]? = some d → c.f < d.f ∧ (c.t = d.t → 0 ≤ c.g ∧ c.g < d.f)
  nb : s.l.length = cntB h n
  nr : rtd s.l = cntR h n
theorem toNat_inj {t u : Int} (h1 : okT t) (h2 : okT u) (h : t.toNat = u.toNat) : t = u := by unfold okT at *; omega
theorem toNat_lt {t : Int} (h1 : okT t) : t.toNat < 6 := by unfold okT at *; omega
theorem x_set_same {s : Mt} {t : Int} (hl : s.w.length = 6) (ht : okT t) (v : Nat) (l : List ClD) : Mt.x ⟨s.w.set t.toNat v, l⟩ t = v := by
  unfold Mt.x
  have := toNat_lt ht
  rw [List.getD_eq_getElem?_getD, List.getElem?_set_self (by omega)]
  rfl
theorem x_set_other {s : Mt} {t u : Int} (ht : okT t) (hu : okT u) (hne : u ≠ t) (v : Nat) (l : List ClD) : Mt.x ⟨s.w.set t.toNat v, l⟩ u = s.x u := by
  unfold Mt.x
  rw [List.getD_eq_getElem?_getD, List.getElem?_set_ne (fun e => hne (toNat_inj hu ht e.symm)), ← List.getD_eq_getElem?_getD]
theorem rtd_set : ∀ (l : List ClD) (i : Nat) (c d : ClD), l[i]? = some c → c.g = -1 → 0 ≤ d.g → rtd (l.set i d) = rtd l + 1 := by
  intro l
  induction l with
  | nil => intro i c d h; simp at h
  | cons y l ih =>
    intro i c d h h1 h2
    cases i with
    | zero =>
      simp at h; subst h
      unfold rtd
      have : decide (0 ≤ y.g) = false := decide_eq_false (by omega)
      simp [List.filter_cons, this, h2]
    | succ i =>
      have := ih i c d (by simpa using h) h1 h2
      unfold rtd at *
      simp only [List.set_cons_succ, List.filter_cons]
      split <;> simp_all
theorem c_at {s : Mt} {i : Nat} {c : ClD} (h : s.l[i]? = some c) : s.c (i + 1) = c := by
  unfold Mt.c
  rw [Nat.add_sub_cancel, List.getD_eq_getElem?_getD, h]; rfl
theorem MInv.ret {h : List EvD} {n : Nat} {s : Mt} (I : MInv h n s) (ht : okT (h.getD n zEv).t) (hr : s.rets (h.getD n zEv)) : MInv h (n + 1) (s.ret n (h.getD n zEv)) := by
  have hev : ∃ e, h.getD n zEv = e := ⟨_, rfl⟩
  obtain ⟨e, he⟩ := hev
  rw [he] at ht hr ⊢
  obtain ⟨r1, r2, r3⟩ := hr
  obtain ⟨i, c, hx, hc, hct, hcg, hon⟩ : ∃ i c, s.x e.t = i + 1 ∧ s.l[i]? = some c ∧ c.t = e.t ∧ c.g = -1 ∧ onn h e.t n = c.f := by
    rcases I.wt e.t ht with ⟨a, _⟩ | a
    · omega
    · exact a
  have hil : i < s.l.length := (List.getElem?_eq_some_iff.1 hc).1
  have hce : s.c (i + 1) = c := c_at hc
  obtain ⟨hc1, ⟨ec, p, hp1, hp2, hp3, hp4, hp5, hp6⟩, _⟩ := I.has i c hc
  have hS : s.ret n e = ⟨s.w.set e.t.toNat 0, s.l.set i { c with g := (n : Int), a := e.a }⟩ := by
    unfold Mt.ret
    rw [hx, hce, Nat.add_sub_cancel]
  rw [hS]
  have hxs : Mt.x ⟨s.w.set e.t.toNat 0, s.l.set i { c with g := (n : Int), a := e.a }⟩ e.t = 0 := x_set_same I.len ht 0 _
  have hxo : ∀ u, okT u → u ≠ e.t → Mt.x ⟨s.w.set e.t.toNat 0, s.l.set i { c with g := (n : Int), a := e.a }⟩ u = s.x u := fun u hu hne => x_set_other ht hu hne 0 _
  refine ⟨by simp [I.len], ?_, ?_, ?_, ?_, ?_⟩
  · intro t h1
    by_cases hte : t = e.t
    · subst hte
      refine .inl ⟨hxs, ?_⟩
      simp only [onn, he, r1, if_true]
    · have hon' : onn h t (n + 1) = onn h t n := by simp only [onn, he]; rw [if_neg (fun x => hte x.symm)]
      rw [hxo t h1 hte, hon']
      rcases I.wt t h1 with a | ⟨j, d, b1, b2, b3, b4, b5⟩
      · exact .inl a
      · refine .inr ⟨j, d, b1, ?_, b3, b4, b5⟩
        have : i ≠ j := fun e' => by
          subst e'
          rw [hc] at b2; cases b2
          exact hte (b3.symm.trans hct)
        simp only
        rw [List.getElem?_set_ne this]; exact b2
  · intro j d hd
    simp only at hd
    rw [List.getElem?_set] at hd
    by_cases e1 : i = j
    · subst e1
      rw [if_pos rfl, if_pos hil] at hd
      cases hd
      refine ⟨hc1, ⟨ec, p, hp1, by omega, hp3, hp4, hp5, hp6⟩, .inr ⟨?_, n, rfl, by simp only; omega, by omega, by rw [he]; exact r1, by rw [he]⟩⟩
      show Mt.x ⟨s.w.set e.t.toNat 0, s.l.set i { c with g := (n : Int), a := e.a }⟩ c.t ≠ i + 1
      rw [← hct] at hxs; rw [hct] at hxs ⊢; rw [hxs]; omega
    · rw [if_neg e1] at hd
      obtain ⟨d1, ⟨ed, q, q1, q2, q3⟩, d3⟩ := I.has j d hd
      refine ⟨d1, ⟨ed, q, q1, by omega, q3⟩, ?_⟩
      by_cases hde : d.t = e.t
      · rw [hde, hxs]
        rcases d3 with ⟨_, d4, _⟩ | ⟨_, k, k1, k2, k3, k4⟩
        · rw [hde, hx] at d4; omega
        · exact .inr ⟨by omega, k, k1, k2, by omega, k4⟩
      · rw [hxo d.t d1 hde]
        rcases d3 with d4 | ⟨d4, k, k1, k2, k3, k4⟩
        · exact .inl d4
        · exact .inr ⟨d4, k, k1, k2, by omega, k4⟩
  · intro j k d f hjk hd hf
    simp only at hd hf
    rw [List.getElem?_set] at hd hf
    by_cases e1 : i = j
    · subst e1
      rw [if_pos rfl, if_pos hil] at hd
      rw [if_neg (by omega)] at hf
      cases hd
      have := I.ord i k c f hjk hc hf
      refine ⟨this.1, fun x => ?_⟩
      simp only at x
      have := (this.2 x).1
      omega
    · rw [if_neg e1] at hd
      by_cases e2 : i = k
      · subst e2
        rw [if_pos rfl, if_pos hil] at hf
        cases hf
        exact I.ord j i d c hjk hd hc
      · rw [if_neg e2] at hf
        exact I.ord j k d f hjk hd hf
  · simp only [List.length_set, cntB, he, r1, if_true]; exact I.nb
  · simp only [cntR, he, r1, if_true]
    rw [rtd_set s.l i c _ hc hcg (by simp only; omega), I.nr]
theorem MInv.beg {h : List EvD} {n : Nat} {s : Mt} (I : MInv h n s) (ht : okT (h.getD n zEv).t) (hr : s.begs (h.getD n zEv)) : MInv h (n + 1) (s.beg n (h.getD n zEv)) := by
  have hev : ∃ e, h.getD n zEv = e := ⟨_, rfl⟩
  obtain ⟨e, he⟩ := hev
  rw [he] at ht hr ⊢
  obtain ⟨r1, r2, r3, r4⟩ := hr
  unfold Mt.beg
  have hxs : Mt.x ⟨s.w.set e.t.toNat (s.l.length + 1), s.l ++ [⟨e.t, (n : Int), -1, e.o, zAd⟩]⟩ e.t = s.l.length + 1 := x_set_same I.len ht _ _
  have hxo : ∀ u, okT u → u ≠ e.t → Mt.x ⟨s.w.set e.t.toNat (s.l.length + 1), s.l ++ [⟨e.t, (n : Int), -1, e.o, zAd⟩]⟩ u = s.x u := fun u hu hne => x_set_other ht hu hne _ _
  have hcase : ∀ (j : Nat) (d : ClD), (s.l ++ [(⟨e.t, (n : Int), -1, e.o, zAd⟩ : ClD)])[j]? = some d → (j < s.l.length ∧ s.l[j]? = some d) ∨ (j = s.l.length ∧ d = ⟨e.t, (n : Int), -1, e.o, zAd⟩) := by
    intro j d hd
    rcases Nat.lt_trichotomy j s.l.length with h1 | h1 | h1
    · rw [List.getElem?_append_left h1] at hd; exact .inl ⟨h1, hd⟩
    · subst h1; simp at hd; exact .inr ⟨rfl, hd.symm⟩
    · rw [List.getElem?_eq_none (by simp; omega)] at hd; cases hd
  have hleft : ∀ (j : Nat) (d : ClD), s.l[j]? = some d → (s.l ++ [(⟨e.t, (n : Int), -1, e.o, zAd⟩ : ClD)])[j]? = some d := fun j d hd => by
    rw [List.getElem?_append_left (List.getElem?_eq_some_iff.1 hd).1]; exact hd
  refine ⟨by simp [I.len], ?_, ?_, ?_, ?_, ?_⟩
  · intro t h1
    by_cases hte : t = e.t
    · subst hte
      refine .inr ⟨s.l.length, ⟨e.t, (n : Int), -1, e.o, zAd⟩, hxs, by simp, rfl, rfl, ?_⟩
      simp only [onn, he, r1, if_true]; simp
    · have hon' : onn h t (n + 1) = onn h t n := by simp only [onn, he]; rw [if_neg (fun x => hte x.symm)]
      rw [hxo t h1 hte, hon']
      rcases I.wt t h1 with a | ⟨j, d, b1, b2, b3, b4, b5⟩
      · exact .inl a
      · exact .inr ⟨j, d, b1, hleft j d b2, b3, b4, b5⟩
  · intro j d hd
    rcases hcase j d hd with ⟨h1, h2⟩ | ⟨rfl, rfl⟩
    · obtain ⟨d1, ⟨ed, q, q1, q2, q3⟩, d3⟩ := I.has j d h2
      refine ⟨d1, ⟨ed, q, q1, by omega, q3⟩, ?_⟩
      by_cases hde : d.t = e.t
      · rw [hde, hxs]
        rcases d3 with ⟨_, d4, _⟩ | ⟨_, k, k1, k2, k3, k4⟩
        · rw [hde, r2] at d4; omega
        · exact .inr ⟨by omega, k, k1, k2, by omega, k4⟩
      · rw [hxo d.t d1 hde]
        rcases d3 with d4 | ⟨d4, k, k1, k2, k3, k4⟩
        · exact .inl d4
        · exact .inr ⟨d4, k, k1, k2, by omega, k4⟩
    · exact ⟨ht, ⟨e, n, rfl, by omega, he, r1, rfl, rfl⟩, .inl ⟨rfl, hxs, rfl⟩⟩
  · intro j k d f hjk hd hf
    rcases hcase k f hf with ⟨h1, h2⟩ | ⟨rfl, rfl⟩
    · rcases hcase j d hd with ⟨h3, h4⟩ | ⟨rfl, rfl⟩
      · exact I.ord j k d f hjk h4 h2
      · omega
    · rcases hcase j d hd with ⟨h3, h4⟩ | ⟨rfl, rfl⟩
      · obtain ⟨d1, ⟨ed, q, q1, q2, q3⟩, d3⟩ := I.has j d h4
        refine ⟨by simp only; omega, fun x => ?_⟩
        simp only at x ⊢
        rcases d3 with ⟨_, d4, _⟩ | ⟨_, k, k1, k2, k3, k4⟩
        · rw [x, r2] at d4; omega
        · omega
      · omega
  · simp only [List.length_append, List.length_singleton, cntB, he, r1]; rw [I.nb]; simp
  · simp only [cntR, he, r1]
    have : rtd (s.l ++ [(⟨e.t, (n : Int), -1, e.o, zAd⟩ : ClD)]) = rtd s.l := by unfold rtd; simp
    rw [this, I.nr]; simp
theorem minv (h : List EvD) : ∀ (n : Nat) (s : Mt), mtc h n = some s → MInv h n s := by
  intro n
  induction n with
  | zero =>
    intro s e
    simp only [mtc, Option.some.injEq] at e
    subst e
    refine ⟨rfl, fun t ht => .inl ⟨?_, rfl⟩, fun i c hc => by simp [Mt.z] at hc, fun i j c d _ hc => by simp [Mt.z] at hc, rfl, rfl⟩
    unfold Mt.x Mt.z
    have := toNat_lt ht
    match t.toNat, this with
    | 0, _ => rfl
    | 1, _ => rfl
    | 2, _ => rfl
    | 3, _ => rfl
    | 4, _ => rfl
    | 5, _ => rfl
  | succ n ih =>
    intro s e
    rw [mtc_succ] at e
    cases c : mtc h n with
    | none => rw [c] at e; cases e
    | some s0 =>
      rw [c] at e
      simp only [Option.bind_some] at e
      unfold stp at e
      by_cases h1 : okT (h.getD n zEv).t
      · rw [if_pos h1] at e
        by_cases h2 : s0.rets (h.getD n zEv)
        · rw [if_pos h2] at e
          cases e
          exact (ih s0 c).ret h1 h2
        · rw [if_neg h2] at e
          by_cases h3 : s0.begs (h.getD n zEv)
          · rw [if_pos h3] at e
            cases e
            exact (ih s0 c).beg h1 h3
          · rw [if_neg h3] at e; cases e
      · rw [if_neg h1] at e; cases e

/-- c is over ahead of d. -/
def bef (c d : ClD) : Prop := 0 ≤ c.g ∧ c.g < d.f
instance (c d : ClD) : Decidable (bef c d) := by unfold bef; infer_instance
def ovr (l : List ClD) : Prop := ∀ c ∈ l, 0 ≤ c.g
def slo (l : List ClD) : Prop := ∀ i, 0 < i → i < l.length → bef (l.getD (i - 1) zCl) (l.getD i zCl)
theorem rtd_le (l : List ClD) : rtd l ≤ l.length := List.length_filter_le _ _
theorem ovr_iff (l : List ClD) : ovr l ↔ l.length = rtd l := by
  unfold ovr rtd
  constructor
  · intro h
    rw [List.filter_eq_self.2 (fun c hc => by simpa using h c hc)]
  · intro h c hc
    have e := (List.filter_sublist (p := fun c : ClD => decide (0 ≤ c.g)) (l := l)).eq_of_length h.symm
    rw [← e] at hc
    simpa using (List.mem_filter.1 hc).2
theorem MInv.ne {h : List EvD} {n : Nat} {s : Mt} (I : MInv h n s) (hl : s.l.length = 0) : n = 0 := by
  have h1 := I.nb
  have h2 := I.nr
  have h3 := rtd_le s.l
  have key : ∀ n, cntB h n + cntR h n = n := by
    intro n
    induction n with
    | zero => rfl
    | succ n ih => simp only [cntB, cntR]; split <;> omega
  have := key n
  omega
theorem MInv.ovr {h : List EvD} {n : Nat} {s : Mt} (I : MInv h n s) : ovr s.l ↔ cntB h n = cntR h n := by
  rw [ovr_iff, I.nb, I.nr]
theorem MInv.irr {h : List EvD} {n : Nat} {s : Mt} (I : MInv h n s) {i : Nat} {c : ClD} (hc : s.l[i]? = some c) : ¬ bef c c := by
  obtain ⟨_, ⟨_, p, p1, _⟩, h3⟩ := I.has i c hc
  unfold bef
  rcases h3 with ⟨a, _⟩ | ⟨_, q, q1, q2, _⟩ <;> omega
theorem MInv.fg {h : List EvD} {n : Nat} {s : Mt} (I : MInv h n s) {i : Nat} {c : ClD} (hc : s.l[i]? = some c) : c.g < 0 ∨ c.f < c.g := by
  obtain ⟨_, ⟨_, p, p1, _⟩, h3⟩ := I.has i c hc
  rcases h3 with ⟨a, _⟩ | ⟨_, q, q1, q2, _⟩ <;> omega
theorem MInv.asym {h : List EvD} {n : Nat} {s : Mt} (I : MInv h n s) {i j : Nat} {c d : ClD} (hc : s.l[i]? = some c) (hd : s.l[j]? = some d) : ¬ (bef c d ∧ bef d c) := by
  have h1 := I.fg hc
  have h2 := I.fg hd
  unfold bef
  omega
theorem MInv.trans {h : List EvD} {n : Nat} {s : Mt} (I : MInv h n s) {j : Nat} {a d c : ClD} (hd : s.l[j]? = some d) (h1 : bef a d) (h2 : bef d c) : bef a c := by
  have h3 := I.fg hd
  unfold bef at *
  omega
theorem MInv.same {h : List EvD} {n : Nat} {s : Mt} (I : MInv h n s) {i j : Nat} {c d : ClD} (hc : s.l[i]? = some c) (hd : s.l[j]? = some d) (hf : c.f ≠ d.f) (ht : c.t = d.t) : (bef c d ∧ ¬ bef d c) ∨ (¬ bef c d ∧ bef d c) := by
  have hn := I.asym hc hd
  rcases Nat.lt_trichotomy i j with h1 | h1 | h1
  · have := I.ord i j c d h1 hc hd
    have := this.2 ht
    exact .inl ⟨this, fun x => hn ⟨this, x⟩⟩
  · subst h1; rw [hc] at hd; cases hd; exact absurd rfl hf
  · have := I.ord j i d c h1 hd hc
    have := this.2 ht.symm
    exact .inr ⟨fun x => hn ⟨x, this⟩, this⟩
/-- What was gone through stays. -/
def Ext (k : Nat) (a b : List ClD) : Prop := a.length ≤ b.length ∧ ∀ (i : Nat) (c : ClD), a[i]? = some c → ∃ d, b[i]? = some d ∧ d.t = c.t ∧ d.f = c.f ∧ d.o = c.o ∧ (0 ≤ c.g → d.g = c.g ∧ d.a = c.a) ∧ (c.g < 0 → d.g < 0 ∨ (k : Int) ≤ d.g)
theorem mtc_ext (h : List EvD) (k : Nat) (s0 : Mt) (h0 : mtc h k = some s0) : ∀ n, k ≤ n → ∀ s, mtc h n = some s → Ext k s0.l s.l := by
  intro n
  induction n with
  | zero =>
    intro hk s hs
    obtain rfl : k = 0 := by omega
    rw [h0] at hs; cases hs
    exact ⟨Nat.le_refl _, fun i c hc => ⟨c, hc, rfl, rfl, rfl, fun _ => ⟨rfl, rfl⟩, fun x => .inl x⟩⟩
  | succ n ih =>
    intro hk s hs
    by_cases e : k = n + 1
    · subst e
      rw [h0] at hs; cases hs
      exact ⟨Nat.le_refl _, fun i c hc => ⟨c, hc, rfl, rfl, rfl, fun _ => ⟨rfl, rfl⟩, fun x => .inl x⟩⟩
    · obtain ⟨s1, hs1⟩ := mtc_some hs n (by omega)
      obtain ⟨x1, x2⟩ := ih (by omega) s1 hs1
      have I := minv h n s1 hs1
      rw [mtc_succ, hs1] at hs
      simp only [Option.bind_some] at hs
      unfold stp at hs
      by_cases h1 : okT (h.getD n zEv).t
      · rw [if_pos h1] at hs
        by_cases h2 : s1.rets (h.getD n zEv)
        · rw [if_pos h2] at hs
          cases hs
          unfold Mt.ret
          refine ⟨by simpa using x1, fun i c hc => ?_⟩
          obtain ⟨d, d1, d2, d3, d4, d5, d6⟩ := x2 i c hc
          obtain ⟨j, dj, e1, e2, e3, e4, e5⟩ : ∃ j c, s1.x (h.getD n zEv).t = j + 1 ∧ s1.l[j]? = some c ∧ c.t = (h.getD n zEv).t ∧ c.g = -1 ∧ onn h (h.getD n zEv).t n = c.f := by
            rcases I.wt _ h1 with ⟨a, _⟩ | a
            · have := h2.2.1; omega
            · exact a
          simp only [e1, Nat.add_sub_cancel, c_at e2]
          by_cases hij : j = i
          · subst hij
            rw [e2] at d1; cases d1
            refine ⟨_, List.getElem?_set_self (List.getElem?_eq_some_iff.1 e2).1, d2, d3, d4, fun x => ?_, fun x => .inr ?_⟩
            · have := (d5 x).1; omega
            · simp only; omega
          · exact ⟨d, by rw [List.getElem?_set_ne hij]; exact d1, d2, d3, d4, d5, d6⟩
        · rw [if_neg h2] at hs
          by_cases h3 : s1.begs (h.getD n zEv)
          · rw [if_pos h3] at hs
            cases hs
            unfold Mt.beg
            refine ⟨by simp; omega, fun i c hc => ?_⟩
            obtain ⟨d, d1, d2⟩ := x2 i c hc
            exact ⟨d, by simp only; rw [List.getElem?_append_left (List.getElem?_eq_some_iff.1 d1).1]; exact d1, d2⟩
          · rw [if_neg h3] at hs; cases hs
      · rw [if_neg h1] at hs; cases hs
theorem Ext.slo {h : List EvD} {k : Nat} {s0 s : Mt} (I : MInv h k s0) (e : Ext k s0.l s.l) (hs : slo s.l) : slo s0.l := by
  intro i hi hl
  have := hs i hi (by have := e.1; omega)
  obtain ⟨c, hc⟩ : ∃ c, s0.l[i - 1]? = some c := ⟨_, List.getElem?_eq_getElem (by omega)⟩
  obtain ⟨c', hc'⟩ : ∃ c, s0.l[i]? = some c := ⟨_, List.getElem?_eq_getElem hl⟩
  obtain ⟨d, d1, d2, d3, d4, d5, d6⟩ := e.2 _ c hc
  obtain ⟨d', d1', d2', d3', _⟩ := e.2 _ c' hc'
  have q1 : s.l.getD (i - 1) zCl = d := by rw [List.getD_eq_getElem?_getD, d1]; rfl
  have q2 : s.l.getD i zCl = d' := by rw [List.getD_eq_getElem?_getD, d1']; rfl
  have q3 : s0.l.getD (i - 1) zCl = c := by rw [List.getD_eq_getElem?_getD, hc]; rfl
  have q4 : s0.l.getD i zCl = c' := by rw [List.getD_eq_getElem?_getD, hc']; rfl
  rw [q1, q2] at this
  rw [q3, q4]
  obtain ⟨_, ⟨_, p, p1, p2, _⟩, _⟩ := I.has i c' hc'
  unfold bef at *
  by_cases hg : 0 ≤ c.g
  · have := (d5 hg).1; omega
  · rcases d6 (by omega) with x | x <;> omega
/-- An event more. -/
theorem snoc_call {h : List EvD} {s : Mt} (hs : mtch h = some s) {t : Int} {o : OpD} (ht : okT t) (ho : okOp o.c) :
    mtch (h ++ [⟨t, false, o, zAd⟩]) = if s.x t = 0 then some (s.beg h.length ⟨t, false, o, zAd⟩) else none := by
  rw [mt_snoc, hs]
  simp only [Option.bind_some]
  unfold stp
  rw [if_pos ht, if_neg (fun x => by cases x.1)]
  by_cases c : s.x t = 0
  · rw [if_pos (show s.begs ⟨t, false, o, zAd⟩ from ⟨rfl, c, ho, rfl⟩), if_pos c]
  · rw [if_neg (fun x : s.begs ⟨t, false, o, zAd⟩ => c x.2.1), if_neg c]
theorem snoc_ret {h : List EvD} {s : Mt} (hs : mtch h = some s) {t : Int} {o : OpD} {a : Ad} (ht : okT t) :
    mtch (h ++ [⟨t, true, o, a⟩]) = if 0 < s.x t ∧ (s.c (s.x t)).o = o then some (s.ret h.length ⟨t, true, o, a⟩) else none := by
  rw [mt_snoc, hs]
  simp only [Option.bind_some]
  unfold stp
  rw [if_pos ht]
  by_cases c : 0 < s.x t ∧ (s.c (s.x t)).o = o
  · rw [if_pos (show s.rets ⟨t, true, o, a⟩ from ⟨rfl, c⟩), if_pos c]
  · rw [if_neg (fun x : s.rets ⟨t, true, o, a⟩ => c x.2), if_neg c, if_neg (fun x => by cases x.1)]
theorem MInv.on {h : List EvD} {n : Nat} {s : Mt} (I : MInv h n s) {t : Int} (ht : okT t) : (s.x t = 0 ∧ onn h t n = -1) ∨ (∃ p : Nat, 0 < s.x t ∧ onn h t n = (p : Int) ∧ p < n ∧ (s.c (s.x t)).o = (h.getD p zEv).o) := by
  rcases I.wt t ht with a | ⟨i, c, h1, h2, h3, h4, h5⟩
  · exact .inl a
  · obtain ⟨_, ⟨e, p, p1, p2, p3, p4, p5, p6⟩, _⟩ := I.has i c h2
    refine .inr ⟨p, by omega, by rw [h5, p1], p2, ?_⟩
    rw [h1, c_at h2, p3, p6]
end Go.Proofs.Ytadfnbmogobopaa
