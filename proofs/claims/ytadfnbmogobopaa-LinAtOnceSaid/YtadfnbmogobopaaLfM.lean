/- Plain mathematics of a leaf: where a key stands among sorted pairs, what lies ahead of it, behind it, between two keys; what an operation makes of pairs, and what it tells. No condition: definitions and lemmas. -/
import Derived.Test.YtadfnbmogobopaaLfA
namespace Go.Proofs.Ytadfnbmogobopaa
open Go.RowKit
set_option linter.all false

theorem filter_self {l : List Pr} {p : Pr → Bool} (h : ∀ z ∈ l, p z = true) : l.filter p = l := List.filter_eq_self.2 h
theorem filter_none {l : List Pr} {p : Pr → Bool} (h : ∀ z ∈ l, p z = false) : l.filter p = [] := List.filter_eq_nil_iff.2 (fun z hz => by simp [h z hz])
theorem mem_take_at {l : List Pr} {m : Nat} {z : Pr} (h : z ∈ l.take m) : ∃ i, i < m ∧ l[i]? = some z := by
  obtain ⟨i, hi⟩ := List.getElem?_of_mem h
  have hlt : i < (l.take m).length := (List.getElem?_eq_some_iff.1 hi).1
  rw [List.length_take] at hlt
  rw [List.getElem?_take_of_lt (by omega)] at hi
  exact ⟨i, by omega, hi⟩
theorem mem_drop_at {l : List Pr} {m : Nat} {z : Pr} (h : z ∈ l.drop m) : ∃ i, m ≤ i ∧ l[i]? = some z := by
  obtain ⟨i, hi⟩ := List.getElem?_of_mem h
  rw [List.getElem?_drop] at hi
  exact ⟨m + i, by omega, hi⟩

/-- How many keys are below. -/
def plN (l : List Pr) (k : Int) : Nat := (l.filter (fun z => decide (z.1 < k))).length
theorem lo_pl {l : List Pr} (h : Srt l) (k : Int) : Lo l k (plN l k) := by
  induction l with
  | nil => exact ⟨Nat.le_refl _, fun i q hq => by simp at hq, fun i q hq => by simp at hq⟩
  | cons q l ih =>
    have hl : Srt l := (List.pairwise_cons.1 h).2
    have hq := (List.pairwise_cons.1 h).1
    by_cases hlt : q.1 < k
    · have e : plN (q :: l) k = plN l k + 1 := by unfold plN; rw [List.filter_cons_of_pos (by simpa using hlt)]; rfl
      have L := ih hl
      rw [e]
      refine ⟨by simpa using L.le, fun i z hz hi => ?_, fun i z hz hi => ?_⟩
      · cases i with
        | zero => simp at hz; subst hz; exact hlt
        | succ i => exact L.lo i z (by simpa using hz) (by omega)
      · cases i with
        | zero => omega
        | succ i => exact L.hi i z (by simpa using hz) (by omega)
    · have e : plN (q :: l) k = 0 := by
        unfold plN
        rw [filter_none (fun z hz => ?_)]
        · rfl
        · rcases List.mem_cons.1 hz with rfl | hz
          · simpa using hlt
          · have := hq z hz
            simp; omega
      rw [e]
      refine ⟨Nat.zero_le _, fun i z hz hi => by omega, fun i z hz hi => ?_⟩
      have hz2 := List.mem_of_getElem? hz
      rcases List.mem_cons.1 hz2 with rfl | hz2
      · omega
      · have := hq z hz2
        omega

/-- Is the pair at that place one of that key. -/
def hasB (l : List Pr) (k : Int) (m : Nat) : Bool := match l[m]? with | some q => q.1 == k | none => false
theorem hasB_yes {l : List Pr} {k : Int} {m : Nat} (h : hasB l k m = true) : ∃ v, l[m]? = some (k, v) := by
  unfold hasB at h
  split at h
  · rename_i q e
    refine ⟨q.2, ?_⟩
    rw [e]
    have := eq_of_beq h
    rw [← this]
  · cases h
theorem hasB_no {l : List Pr} {k v : Int} {m : Nat} (h : hasB l k m = false) : l[m]? ≠ some (k, v) := by
  intro e
  unfold hasB at h
  rw [e] at h
  simp at h

/-- Behind the key. -/
def bh (m : Nat) (B : Bool) : Nat := if B then m + 1 else m
section
variable {l : List Pr} {k : Int} {m : Nat}
theorem bh_le (L : Lo l k m) : bh m (hasB l k m) ≤ l.length := by
  have := L.le
  cases hb : hasB l k m
  · simpa [bh] using this
  · obtain ⟨v, e⟩ := hasB_yes hb
    have := (List.getElem?_eq_some_iff.1 e).1
    simp [bh]; omega
theorem bh_ge (m : Nat) (B : Bool) : m ≤ bh m B := by unfold bh; split <;> omega
theorem bh_lo (L : Lo l k m) {i : Nat} {z : Pr} (hz : l[i]? = some z) (hi : i < bh m (hasB l k m)) : z.1 ≤ k := by
  rcases Nat.lt_or_ge i m with h | h
  · have := L.lo i z hz h; omega
  · cases hb : hasB l k m
    · rw [hb] at hi; simp [bh] at hi; omega
    · rw [hb] at hi; simp [bh] at hi
      obtain rfl : i = m := by omega
      obtain ⟨v, e⟩ := hasB_yes hb
      rw [hz] at e
      cases e
      exact Int.le_refl _
theorem bh_hi (h : Srt l) (L : Lo l k m) {i : Nat} {z : Pr} (hz : l[i]? = some z) (hi : bh m (hasB l k m) ≤ i) : k < z.1 := by
  cases hb : hasB l k m
  · rw [hb] at hi; simp [bh] at hi
    have h1 := L.hi i z hz hi
    rcases Nat.lt_or_ge m i with hm | hm
    · obtain ⟨y, hy⟩ : ∃ y, l[m]? = some y := ⟨_, List.getElem?_eq_getElem (by have := (List.getElem?_eq_some_iff.1 hz).1; omega)⟩
      have h2 := L.hi m y hy (Nat.le_refl _)
      have h3 := h.at m i y z hm hy hz
      omega
    · obtain rfl : i = m := by omega
      rcases Int.lt_or_eq_of_le h1 with h4 | h4
      · exact h4
      · obtain ⟨z0, z1⟩ := z
        dsimp only at h4
        subst h4
        exact absurd hz (hasB_no hb)
  · rw [hb] at hi; simp [bh] at hi
    obtain ⟨v, e⟩ := hasB_yes hb
    have := h.at m i _ _ (by omega) e hz
    exact this
theorem take_lo (L : Lo l k m) : l.take m = l.filter (fun z => decide (z.1 < k)) := by
  conv => rhs; rw [← List.take_append_drop m l]
  rw [List.filter_append, filter_self (fun z hz => ?_), filter_none (fun z hz => ?_), List.append_nil]
  · obtain ⟨i, hi, e⟩ := mem_drop_at hz
    have := L.hi i z e hi
    simpa using this
  · obtain ⟨i, hi, e⟩ := mem_take_at hz
    have := L.lo i z e hi
    simpa using this
theorem drop_hi (h : Srt l) (L : Lo l k m) : l.drop (bh m (hasB l k m)) = l.filter (fun z => decide (k < z.1)) := by
  conv => rhs; rw [← List.take_append_drop (bh m (hasB l k m)) l]
  rw [List.filter_append, filter_none (fun z hz => ?_), filter_self (fun z hz => ?_), List.nil_append]
  · obtain ⟨i, hi, e⟩ := mem_drop_at hz
    have := bh_hi h L e hi
    simpa using this
  · obtain ⟨i, hi, e⟩ := mem_take_at hz
    have := bh_lo L e hi
    simpa using this
theorem with_at (h : Srt l) (L : Lo l k m) (v : Int) : l.take m ++ ([(k, v)] ++ l.drop (bh m (hasB l k m))) = withL l k v := by
  rw [withL_srt l k v h, take_lo L, drop_hi h L, List.append_assoc]
theorem cut_at (h : Srt l) (L : Lo l k m) : l.take m ++ l.drop (bh m (hasB l k m)) = cutL l k := by
  rw [take_lo L, drop_hi h L]
  have e : ∀ l : List Pr, Srt l → l.filter (fun z => decide (z.1 < k)) ++ l.filter (fun z => decide (k < z.1)) = cutL l k := by
    intro l
    induction l with
    | nil => intro _; rfl
    | cons q l ih =>
      intro h
      have hl : Srt l := (List.pairwise_cons.1 h).2
      have hq := (List.pairwise_cons.1 h).1
      rcases Int.lt_trichotomy q.1 k with h1 | h1 | h1
      · rw [List.filter_cons_of_pos (by simpa using h1), List.filter_cons_of_neg (by simp; omega), List.cons_append, ih hl]
        unfold cutL
        rw [List.filter_cons_of_pos (by simp; omega)]
      · rw [List.filter_cons_of_neg (by simp; omega), List.filter_cons_of_neg (by simp; omega), ih hl]
        unfold cutL
        rw [List.filter_cons_of_neg (by simp; omega)]
      · rw [filter_none (l := q :: l) (fun z hz => ?_), List.nil_append, filter_self (fun z hz => ?_), cutL_all (fun z hz => ?_)]
        all_goals
          rcases List.mem_cons.1 hz with rfl | hz
          · first | (simp; omega) | omega
          · have := hq z hz
            first | (simp; omega) | omega
  exact e l h
end
theorem rng_at {l : List Pr} {lo hi : Int} {m n t : Nat} (h : Srt l) (L : Lo l lo m) (L2 : Lo l hi n) (ht : bh n (hasB l hi n) = t) : (l.drop m).take (max m t - m) = rngL l lo hi := by
  subst ht
  have e : l = l.take m ++ ((l.drop m).take (max m (bh n (hasB l hi n)) - m) ++ l.drop (max m (bh n (hasB l hi n)))) := by
    conv => lhs; rw [← List.take_append_drop m l]
    congr 1
    conv => lhs; rw [← List.take_append_drop (max m (bh n (hasB l hi n)) - m) (l.drop m)]
    rw [List.drop_drop, show m + (max m (bh n (hasB l hi n)) - m) = max m (bh n (hasB l hi n)) by omega]
  conv => rhs; rw [e]
  rw [rngL_app, rngL_app, rngL_none (l := l.take m) (fun z hz hc => ?_), rngL_none (l := l.drop _) (fun z hz hc => ?_), rngL_all (fun z hz => ?_), List.nil_append, List.append_nil]
  · obtain ⟨i, hi', e⟩ := mem_take_at hz
    rw [List.getElem?_drop] at e
    refine ⟨L.hi _ z e (by omega), bh_lo L2 e (by omega)⟩
  · obtain ⟨i, hi', e⟩ := mem_drop_at hz
    have := bh_hi h L2 e (by omega)
    omega
  · obtain ⟨i, hi', e⟩ := mem_take_at hz
    have := L.lo i z e hi'
    omega

/-- What tells the pair of a key. -/
def hadL (l : List Pr) (k : Int) : Bool × Int × Int := match l.find? (fun z => z.1 == k) with | some q => (true, q.1, q.2) | none => (false, 0, 0)
theorem hadL_yes {l : List Pr} {k v : Int} {m : Nat} (L : Lo l k m) (e : l[m]? = some (k, v)) : hadL l k = (true, k, v) := by
  have e2 : l = l.take m ++ (k, v) :: l.drop (m + 1) := by
    obtain ⟨hlt, he⟩ := List.getElem?_eq_some_iff.1 e
    rw [← he, List.getElem_cons_drop, List.take_append_drop]
  have h1 : (l.take m).find? (fun z => z.1 == k) = none := by
    rw [List.find?_eq_none]
    intro z hz
    obtain ⟨i, hi, e⟩ := mem_take_at hz
    have := L.lo i z e hi
    simp; omega
  unfold hadL
  rw [e2, List.find?_append, h1]
  simp
theorem hadL_no {l : List Pr} {k : Int} {m : Nat} (h : Srt l) (L : Lo l k m) (hb : hasB l k m = false) : hadL l k = (false, 0, 0) := by
  have h1 : l.find? (fun z => z.1 == k) = none := by
    rw [List.find?_eq_none]
    intro z hz
    obtain ⟨i, e⟩ := List.getElem?_of_mem hz
    rcases Nat.lt_or_ge i m with hi | hi
    · have := L.lo i z e hi
      simp; omega
    · have := bh_hi h L e (by rw [hb]; simpa [bh] using hi)
      simp; omega
  unfold hadL
  rw [h1]

/-- An answer: what it tells, but for where its pairs lie. -/
structure Ad where
  err : Int
  ok : Bool
  k : Int
  v : Int
  n : Int
  ps : List Pr
def Ad.val (d : Ad) (a : Option Addr) (cap : Nat) : Value := .agg #[.int .i64 d.err, .bool d.ok, .int .i64 d.k, .int .i64 d.v, .int .i64 d.n, .slice a d.ps.length cap]
def okOp (k : Int) : Prop := 1 ≤ k ∧ k ≤ 8
instance okOpDec (k : Int) : Decidable (okOp k) := by unfold okOp; infer_instance
def hadD (l : List Pr) (k : Int) : Ad := ⟨0, (hadL l k).1, (hadL l k).2.1, (hadL l k).2.2, 0, []⟩
def atD : Option Pr → Ad
  | none => ⟨0, false, 0, 0, 0, []⟩
  | some q => ⟨0, true, q.1, q.2, 0, []⟩
/-- What an operation tells. -/
def doA (l : List Pr) (c k h : Int) : Ad :=
  if ¬ (Srt l ∧ okOp c) then ⟨1, false, 0, 0, 0, []⟩
  else if c ≤ 4 then hadD l k
  else if c = 5 then ⟨0, false, 0, 0, (rngL l k h).length, rngL l k h⟩
  else if c = 6 then ⟨0, false, 0, 0, (rngL l k h).length, []⟩
  else if c = 7 then atD l[0]?
  else atD l[l.length - 1]?
/-- What it leaves. -/
def doP (l : List Pr) (c k v : Int) : List Pr :=
  if ¬ (Srt l ∧ okOp c) then l
  else if c = 1 then withL l k v
  else if c = 2 then (if (hadL l k).1 = true then l else withL l k v)
  else if c = 3 then cutL l k
  else l
theorem doA_bad {l : List Pr} {c : Int} (h : ¬ (Srt l ∧ okOp c)) (k i : Int) : doA l c k i = ⟨1, false, 0, 0, 0, []⟩ := by unfold doA; rw [if_pos h]
theorem doP_bad {l : List Pr} {c : Int} (h : ¬ (Srt l ∧ okOp c)) (k v : Int) : doP l c k v = l := by unfold doP; rw [if_pos h]
section
variable {l : List Pr} {c : Int} (hs : Srt l) (h : okOp c) (k v i : Int)
include hs h
theorem doA_had (h4 : c ≤ 4) : doA l c k i = hadD l k := by unfold doA; rw [if_neg (fun hn => hn ⟨hs, h⟩), if_pos h4]
theorem doA_rng (h5 : c = 5) : doA l c k i = ⟨0, false, 0, 0, (rngL l k i).length, rngL l k i⟩ := by unfold doA; rw [if_neg (fun hn => hn ⟨hs, h⟩), if_neg (by omega), if_pos h5]
theorem doA_cnt (h5 : c = 6) : doA l c k i = ⟨0, false, 0, 0, (rngL l k i).length, []⟩ := by unfold doA; rw [if_neg (fun hn => hn ⟨hs, h⟩), if_neg (by omega), if_neg (by omega), if_pos h5]
theorem doA_min (h5 : c = 7) : doA l c k i = atD l[0]? := by unfold doA; rw [if_neg (fun hn => hn ⟨hs, h⟩), if_neg (by omega), if_neg (by omega), if_neg (by omega), if_pos h5]
theorem doA_max (h5 : c = 8) : doA l c k i = atD l[l.length - 1]? := by unfold doA; rw [if_neg (fun hn => hn ⟨hs, h⟩), if_neg (by omega), if_neg (by omega), if_neg (by omega), if_neg (by omega)]
theorem doP_put (h5 : c = 1) : doP l c k v = withL l k v := by unfold doP; rw [if_neg (fun hn => hn ⟨hs, h⟩), if_pos h5]
theorem doP_add (h5 : c = 2) : doP l c k v = (if (hadL l k).1 = true then l else withL l k v) := by unfold doP; rw [if_neg (fun hn => hn ⟨hs, h⟩), if_neg (by omega), if_pos h5]
theorem doP_cut (h5 : c = 3) : doP l c k v = cutL l k := by unfold doP; rw [if_neg (fun hn => hn ⟨hs, h⟩), if_neg (by omega), if_neg (by omega), if_pos h5]
theorem doP_read (h5 : 4 ≤ c) : doP l c k v = l := by unfold doP; rw [if_neg (fun hn => hn ⟨hs, h⟩), if_neg (by omega), if_neg (by omega), if_neg (by omega)]
end
end Go.Proofs.Ytadfnbmogobopaa
