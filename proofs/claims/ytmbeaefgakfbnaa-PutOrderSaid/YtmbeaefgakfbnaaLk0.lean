/- What looking into a treap tells, by the document's walk, and of a treap of sorted pairs. -/
import Derived.Test.YtmbeaefgakfbnaaNLook
namespace Go.Proofs.Ytmbeaefgakfbnaa
open Go.RowKit
set_option linter.all false

/-- A value of a node; of what is no node 0. -/
def nv (L : List It) (id j : Int) : Int := if kindL L id = 1 then valL L id j else 0
theorem nv_yes {L : List It} {id : Int} (h : kindL L id = 1) (j : Int) : nv L id j = valL L id j := if_pos h
theorem nv_no {L : List It} {id : Int} (h : kindL L id ≠ 1) (j : Int) : nv L id j = 0 := if_neg h

/-- look.plus. -/
def plusW (m n : Int) : Int :=
  if 0 < n ∧ wrap64 (9223372036854775807 - n) < m then 9223372036854775807
  else if n < 0 ∧ m < wrap64 (-9223372036854775808 - n) then -9223372036854775808
  else wrap64 (m + n)
theorem plusW_small {m n : Int} (hm : 0 ≤ m) (hm2 : m ≤ 4611686018427387904) (hn0 : 0 ≤ n) (hn : n ≤ 4611686018427387900) : plusW m n = m + n := by
  unfold plusW wrap64
  rw [if_neg (by omega), if_neg (by omega)]
  omega

def getL (L : List It) (t key : Int) : Option Int :=
  if h : kindL L t = 1 then
    if valL L t 0 = key then some (valL L t 1)
    else if key < valL L t 0 then getL L (downL L t (valL L t 2)) key
    else getL L (downL L t (valL L t 3)) key
  else none
termination_by t.toNat
decreasing_by all_goals exact downL_lt h

def farL (L : List It) (j t : Int) : Option Pr :=
  if h : kindL L t = 1 then some ((farL L j (downL L t (valL L t j))).getD (valL L t 0, valL L t 1))
  else none
termination_by t.toNat
decreasing_by all_goals exact downL_lt h

def aheadL (L : List It) (t passed : Int) : Int := plusW passed (nv L (downL L t (valL L t 2)) 4)

def nthG (L : List It) (t i passed : Int) : Option Pr :=
  if h : kindL L t = 1 then
    if aheadL L t passed = i then some (valL L t 0, valL L t 1)
    else if i < aheadL L t passed then nthG L (downL L t (valL L t 2)) i passed
    else nthG L (downL L t (valL L t 3)) i (plusW (aheadL L t passed) 1)
  else none
termination_by t.toNat
decreasing_by all_goals exact downL_lt h

def belowG (L : List It) (t key passed : Int) : Int :=
  if h : kindL L t = 1 then
    if valL L t 0 = key then aheadL L t passed
    else if key < valL L t 0 then belowG L (downL L t (valL L t 2)) key passed
    else belowG L (downL L t (valL L t 3)) key (plusW (aheadL L t passed) 1)
  else passed
termination_by t.toNat
decreasing_by all_goals exact downL_lt h

section
variable {L : List It} {t key i passed j : Int}
theorem getL_no (h : kindL L t ≠ 1) : getL L t key = none := by rw [getL, dif_neg h]
theorem getL_here (h : kindL L t = 1) (hk : valL L t 0 = key) : getL L t key = some (valL L t 1) := by rw [getL, dif_pos h, if_pos hk]
theorem getL_left (h : kindL L t = 1) (hk : key < valL L t 0) : getL L t key = getL L (downL L t (valL L t 2)) key := by rw [getL, dif_pos h, if_neg (by omega), if_pos hk]
theorem getL_right (h : kindL L t = 1) (hk : valL L t 0 < key) : getL L t key = getL L (downL L t (valL L t 3)) key := by rw [getL, dif_pos h, if_neg (by omega), if_neg (by omega)]
theorem farL_no (h : kindL L t ≠ 1) : farL L j t = none := by rw [farL, dif_neg h]
theorem farL_yes (h : kindL L t = 1) : farL L j t = some ((farL L j (downL L t (valL L t j))).getD (valL L t 0, valL L t 1)) := by rw [farL, dif_pos h]
theorem nthG_no (h : kindL L t ≠ 1) : nthG L t i passed = none := by rw [nthG, dif_neg h]
theorem nthG_here (h : kindL L t = 1) (hk : aheadL L t passed = i) : nthG L t i passed = some (valL L t 0, valL L t 1) := by rw [nthG, dif_pos h, if_pos hk]
theorem nthG_left (h : kindL L t = 1) (hk : i < aheadL L t passed) : nthG L t i passed = nthG L (downL L t (valL L t 2)) i passed := by rw [nthG, dif_pos h, if_neg (by omega), if_pos hk]
theorem nthG_right (h : kindL L t = 1) (hk : aheadL L t passed < i) : nthG L t i passed = nthG L (downL L t (valL L t 3)) i (plusW (aheadL L t passed) 1) := by rw [nthG, dif_pos h, if_neg (by omega), if_neg (by omega)]
theorem belowG_no (h : kindL L t ≠ 1) : belowG L t key passed = passed := by rw [belowG, dif_neg h]
theorem belowG_here (h : kindL L t = 1) (hk : valL L t 0 = key) : belowG L t key passed = aheadL L t passed := by rw [belowG, dif_pos h, if_pos hk]
theorem belowG_left (h : kindL L t = 1) (hk : key < valL L t 0) : belowG L t key passed = belowG L (downL L t (valL L t 2)) key passed := by rw [belowG, dif_pos h, if_neg (by omega), if_pos hk]
theorem belowG_right (h : kindL L t = 1) (hk : valL L t 0 < key) : belowG L t key passed = belowG L (downL L t (valL L t 3)) key (plusW (aheadL L t passed) 1) := by rw [belowG, dif_pos h, if_neg (by omega), if_neg (by omega)]
end

/-! ### Of a treap of sorted pairs -/

theorem Tree.size {L : List It} {t : Int} {l : List Pr} (h : Tree L t l) : nv L t 4 = (l.length : Int) ∧ nv L t 5 = (hi l : Int) := by
  rcases h.says with ⟨rfl, rfl, k⟩ | ⟨i, q, x, y, _, _, _, k, _, _, _, _, h4, h5, _⟩
  · rw [nv_no (by omega), nv_no (by omega), hi_neg [] (by rw [topL_nil]; omega)]
    exact ⟨rfl, rfl⟩
  · rw [nv_yes k, nv_yes k]
    exact ⟨h4, h5⟩

theorem get_tree {L : List It} {t : Int} {l : List Pr} (h : Tree L t l) (key : Int) : Srt l → getL L t key = (findL l key).map (·.2) := by
  induction h with
  | nil => intro _; rw [getL_no (by rw [kindL_zero L 0 (by omega)]; omega), findL_nil]; rfl
  | node t x y l i q h1 h2 h3 h4 h5 h6 h7 t1 t2 ih1 ih2 =>
    intro hs
    obtain ⟨k, e0, e1, e2, e3, _, _⟩ := node_says h3
    by_cases hk : q.1 = key
    · rw [getL_here k (by omega), ← hk, findL_here hs h2, e1]; rfl
    · by_cases hk2 : key < q.1
      · rw [getL_left k (by omega), e2, downL_of h4, ih1 (hs.take i), findL_left hs h2 hk2]
      · rw [getL_right k (by omega), e3, downL_of h5, ih2 (hs.drop _), findL_right hs h2 (by omega)]

theorem ahead_tree {L : List It} {t x : Int} {l : List Pr} (p : Int) (e2 : valL L t 2 = x) (h4 : x < t) (t1 : Tree L x l) (h0 : 0 ≤ p) (h1 : p ≤ 100000) (hl : l.length ≤ 100000) : aheadL L t p = p + l.length := by
  unfold aheadL
  rw [e2, downL_of h4, t1.size.1, plusW_small h0 (by omega) (by omega) (by omega)]

theorem below_tree {L : List It} {t : Int} {l : List Pr} (h : Tree L t l) (key : Int) : ∀ p : Int, Srt l → 0 ≤ p → p + l.length ≤ 100000 → belowG L t key p = p + belowL l key := by
  induction h with
  | nil => intro p _ _ _; rw [belowG_no (by rw [kindL_zero L 0 (by omega)]; omega), belowL_nil]; simp
  | node t x y l i q h1 h2 h3 h4 h5 h6 h7 t1 t2 ih1 ih2 =>
    intro p hs hp hl
    obtain ⟨k, e0, e1, e2, e3, _, _⟩ := node_says h3
    have hil := (List.getElem?_eq_some_iff.1 h2).1
    have n1 : (l.take i).length = i := by rw [List.length_take]; omega
    have n2 : (l.drop (i + 1)).length = l.length - (i + 1) := List.length_drop
    have ea := ahead_tree p e2 h4 t1 hp (by omega) (by omega)
    by_cases hk : q.1 = key
    · rw [belowG_here k (by omega), ← hk, belowL_here hs h2, ea, n1]
    · by_cases hk2 : key < q.1
      · rw [belowG_left k (by omega), e2, downL_of h4, ih1 p (hs.take i) hp (by omega), belowL_left hs h2 (by omega)]
      · rw [belowG_right k (by omega), e3, downL_of h5, ea, plusW_small (by omega) (by omega) (by omega) (by omega), ih2 _ (hs.drop _) (by omega) (by omega), belowL_right hs h2 (by omega), n1]
        omega

theorem nth_tree {L : List It} {t : Int} {l : List Pr} (h : Tree L t l) : ∀ (p : Int) (n : Nat), 0 ≤ p → p + l.length ≤ 100000 → nthG L t (p + n) p = l[n]? := by
  induction h with
  | nil => intro p n _ _; rw [nthG_no (by rw [kindL_zero L 0 (by omega)]; omega)]; simp
  | node t x y l i q h1 h2 h3 h4 h5 h6 h7 t1 t2 ih1 ih2 =>
    intro p n hp hl
    obtain ⟨k, e0, e1, e2, e3, _, _⟩ := node_says h3
    have hil := (List.getElem?_eq_some_iff.1 h2).1
    have n1 : (l.take i).length = i := by rw [List.length_take]; omega
    have n2 : (l.drop (i + 1)).length = l.length - (i + 1) := List.length_drop
    have ea := ahead_tree p e2 h4 t1 hp (by omega) (by omega)
    rw [n1] at ea
    by_cases hk : n = i
    · subst hk
      rw [nthG_here k (by omega), h2, e0, e1]
    · by_cases hk2 : n < i
      · rw [nthG_left k (by omega), e2, downL_of h4, ih1 p n hp (by omega), ← nth_left hk2]
      · rw [nthG_right k (by omega), e3, downL_of h5, ea, plusW_small (by omega) (by omega) (by omega) (by omega), nth_right (show i < n by omega), ← ih2 (p + i + 1) (n - (i + 1)) (by omega) (by omega)]
        congr 1
        omega

theorem far_left {L : List It} {t : Int} {l : List Pr} (h : Tree L t l) : farL L 2 t = l[0]? := by
  induction h with
  | nil => rw [farL_no (by rw [kindL_zero L 0 (by omega)]; omega)]; rfl
  | node t x y l i q h1 h2 h3 h4 h5 h6 h7 t1 t2 ih1 ih2 =>
    obtain ⟨k, e0, e1, e2, e3, _, _⟩ := node_says h3
    have hil := (List.getElem?_eq_some_iff.1 h2).1
    rw [farL_yes k, e2, downL_of h4, ih1, e0, e1]
    by_cases hi0 : i = 0
    · subst hi0; rw [h2]; simp
    · rw [List.getElem?_take_of_lt (by omega), List.getElem?_eq_getElem (by omega)]; rfl
theorem far_right {L : List It} {t : Int} {l : List Pr} (h : Tree L t l) : farL L 3 t = l[l.length - 1]? := by
  induction h with
  | nil => rw [farL_no (by rw [kindL_zero L 0 (by omega)]; omega)]; rfl
  | node t x y l i q h1 h2 h3 h4 h5 h6 h7 t1 t2 ih1 ih2 =>
    obtain ⟨k, e0, e1, e2, e3, _, _⟩ := node_says h3
    have hil := (List.getElem?_eq_some_iff.1 h2).1
    rw [farL_yes k, e3, downL_of h5, ih2, e0, e1, List.getElem?_drop, List.length_drop]
    by_cases hi0 : i + 1 = l.length
    · rw [show l.length - 1 = i by omega, h2, List.getElem?_eq_none (by omega)]; simp
    · rw [show i + 1 + (l.length - (i + 1) - 1) = l.length - 1 by omega, List.getElem?_eq_getElem (by omega)]; rfl
end Go.Proofs.Ytmbeaefgakfbnaa
