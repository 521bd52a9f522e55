/- What looking into a treap tells, by the document's walk, and of a treap of sorted pairs. Contracts of package look: lower, plus, Size, High, Get. Contract of look.Get. Contract of look.Below. Contract of look.Nth. Contracts of look.farthest, Min, Max. look over the treap of sorted pairs, in an arena that a law holds. -/
import Derived.Test.YtbmlpdkbiipcmaaNtG
import Derived.Deep.CutRange
import Derived.Deep.CutBlock
namespace Go.Proofs.Ytbmlpdkbiipcmaa
open Go.RowKit
set_option linter.all false

/-- A value of a node; of what is no node 0. -/
def nv (L : List It) (id j : Int) : Int := if kindL L id = 1 then valL L id j else 0
theorem nv_yes {L : List It} {id : Int} (h : kindL L id = 1) (j : Int) : nv L id j = valL L id j := if_pos h
theorem nv_no {L : List It} {id : Int} (h : kindL L id ≠ 1) (j : Int) : nv L id j = 0 := if_neg h

/-- look.plus. -/
def plusW (m n : Int) : Int :=
  if 0 < n ∧ wrap64 (9223372036854775807 - n) < m then 9223372036854775807
  else if n < 0 ∧ m < wrap64 (-9223372036854775808 - n) then -9223372036854775808
  else wrap64 (m + n)
theorem plusW_small {m n : Int} (hm : 0 ≤ m) (hm2 : m ≤ 4611686018427387904) (hn0 : 0 ≤ n) (hn : n ≤ 4611686018427387900) : plusW m n = m + n := by
  unfold plusW wrap64
  rw [if_neg (by omega), if_neg (by omega)]
  omega

def getL (L : List It) (t key : Int) : Option Int :=
  if h : kindL L t = 1 then
    if valL L t 0 = key then some (valL L t 1)
    else if key < valL L t 0 then getL L (downL L t (valL L t 2)) key
    else getL L (downL L t (valL L t 3)) key
  else none
termination_by t.toNat
decreasing_by all_goals exact downL_lt h

def farL (L : List It) (j t : Int) : Option Pr :=
  if h : kindL L t = 1 then some ((farL L j (downL L t (valL L t j))).getD (valL L t 0, valL L t 1))
  else none
termination_by t.toNat
decreasing_by all_goals exact downL_lt h

def aheadL (L : List It) (t passed : Int) : Int := plusW passed (nv L (downL L t (valL L t 2)) 4)

def nthG (L : List It) (t i passed : Int) : Option Pr :=
  if h : kindL L t = 1 then
    if aheadL L t passed = i then some (valL L t 0, valL L t 1)
    else if i < aheadL L t passed then nthG L (downL L t (valL L t 2)) i passed
    else nthG L (downL L t (valL L t 3)) i (plusW (aheadL L t passed) 1)
  else none
termination_by t.toNat
decreasing_by all_goals exact downL_lt h

def belowG (L : List It) (t key passed : Int) : Int :=
  if h : kindL L t = 1 then
    if valL L t 0 = key then aheadL L t passed
    else if key < valL L t 0 then belowG L (downL L t (valL L t 2)) key passed
    else belowG L (downL L t (valL L t 3)) key (plusW (aheadL L t passed) 1)
  else passed
termination_by t.toNat
decreasing_by all_goals exact downL_lt h

section
variable {L : List It} {t key i passed j : Int}
theorem getL_no (h : kindL L t ≠ 1) : getL L t key = none := by rw [getL, dif_neg h]
theorem getL_here (h : kindL L t = 1) (hk : valL L t 0 = key) : getL L t key = some (valL L t 1) := by rw [getL, dif_pos h, if_pos hk]
theorem getL_left (h : kindL L t = 1) (hk : key < valL L t 0) : getL L t key = getL L (downL L t (valL L t 2)) key := by rw [getL, dif_pos h, if_neg (by omega), if_pos hk]
theorem getL_right (h : kindL L t = 1) (hk : valL L t 0 < key) : getL L t key = getL L (downL L t (valL L t 3)) key := by rw [getL, dif_pos h, if_neg (by omega), if_neg (by omega)]
theorem farL_no (h : kindL L t ≠ 1) : farL L j t = none := by rw [farL, dif_neg h]
theorem farL_yes (h : kindL L t = 1) : farL L j t = some ((farL L j (downL L t (valL L t j))).getD (valL L t 0, valL L t 1)) := by rw [farL, dif_pos h]
theorem nthG_no (h : kindL L t ≠ 1) : nthG L t i passed = none := by rw [nthG, dif_neg h]
theorem nthG_here (h : kindL L t = 1) (hk : aheadL L t passed = i) : nthG L t i passed = some (valL L t 0, valL L t 1) := by rw [nthG, dif_pos h, if_pos hk]
theorem nthG_left (h : kindL L t = 1) (hk : i < aheadL L t passed) : nthG L t i passed = nthG L (downL L t (valL L t 2)) i passed := by rw [nthG, dif_pos h, if_neg (by omega), if_pos hk]
theorem nthG_right (h : kindL L t = 1) (hk : aheadL L t passed < i) : nthG L t i passed = nthG L (downL L t (valL L t 3)) i (plusW (aheadL L t passed) 1) := by rw [nthG, dif_pos h, if_neg (by omega), if_neg (by omega)]
theorem belowG_no (h : kindL L t ≠ 1) : belowG L t key passed = passed := by rw [belowG, dif_neg h]
theorem belowG_here (h : kindL L t = 1) (hk : valL L t 0 = key) : belowG L t key passed = aheadL L t passed := by rw [belowG, dif_pos h, if_pos hk]
theorem belowG_left (h : kindL L t = 1) (hk : key < valL L t 0) : belowG L t key passed = belowG L (downL L t (valL L t 2)) key passed := by rw [belowG, dif_pos h, if_neg (by omega), if_pos hk]
theorem belowG_right (h : kindL L t = 1) (hk : valL L t 0 < key) : belowG L t key passed = belowG L (downL L t (valL L t 3)) key (plusW (aheadL L t passed) 1) := by rw [belowG, dif_pos h, if_neg (by omega), if_neg (by omega)]
end

/-! ### Of a treap of sorted pairs -/

theorem Tree.size {L : List It} {t : Int} {l : List Pr} (h : Tree L t l) : nv L t 4 = (l.length : Int) ∧ nv L t 5 = (hi l : Int) := by
  rcases h.says with ⟨rfl, rfl, k⟩ | ⟨i, q, x, y, _, _, _, k, _, _, _, _, h4, h5, _⟩
  · rw [nv_no (by omega), nv_no (by omega), hi_neg [] (by rw [topL_nil]; omega)]
    exact ⟨rfl, rfl⟩
  · rw [nv_yes k, nv_yes k]
    exact ⟨h4, h5⟩

theorem get_tree {L : List It} {t : Int} {l : List Pr} (h : Tree L t l) (key : Int) : Srt l → getL L t key = (findL l key).map (·.2) := by
  induction h with
  | nil => intro _; rw [getL_no (by rw [kindL_zero L 0 (by omega)]; omega), findL_nil]; rfl
  | node t x y l i q h1 h2 h3 h4 h5 h6 h7 t1 t2 ih1 ih2 =>
    intro hs
    obtain ⟨k, e0, e1, e2, e3, _, _⟩ := node_says h3
    by_cases hk : q.1 = key
    · rw [getL_here k (by omega), ← hk, findL_here hs h2, e1]; rfl
    · by_cases hk2 : key < q.1
      · rw [getL_left k (by omega), e2, downL_of h4, ih1 (hs.take i), findL_left hs h2 hk2]
      · rw [getL_right k (by omega), e3, downL_of h5, ih2 (hs.drop _), findL_right hs h2 (by omega)]

theorem ahead_tree {L : List It} {t x : Int} {l : List Pr} (p : Int) (e2 : valL L t 2 = x) (h4 : x < t) (t1 : Tree L x l) (h0 : 0 ≤ p) (h1 : p ≤ 100000) (hl : l.length ≤ 100000) : aheadL L t p = p + l.length := by
  unfold aheadL
  rw [e2, downL_of h4, t1.size.1, plusW_small h0 (by omega) (by omega) (by omega)]

theorem below_tree {L : List It} {t : Int} {l : List Pr} (h : Tree L t l) (key : Int) : ∀ p : Int, Srt l → 0 ≤ p → p + l.length ≤ 100000 → belowG L t key p = p + belowL l key := by
  induction h with
  | nil => intro p _ _ _; rw [belowG_no (by rw [kindL_zero L 0 (by omega)]; omega), belowL_nil]; simp
  | node t x y l i q h1 h2 h3 h4 h5 h6 h7 t1 t2 ih1 ih2 =>
    intro p hs hp hl
    obtain ⟨k, e0, e1, e2, e3, _, _⟩ := node_says h3
    have hil := (List.getElem?_eq_some_iff.1 h2).1
    have n1 : (l.take i).length = i := by rw [List.length_take]; omega
    have n2 : (l.drop (i + 1)).length = l.length - (i + 1) := List.length_drop
    have ea := ahead_tree p e2 h4 t1 hp (by omega) (by omega)
    by_cases hk : q.1 = key
    · rw [belowG_here k (by omega), ← hk, belowL_here hs h2, ea, n1]
    · by_cases hk2 : key < q.1
      · rw [belowG_left k (by omega), e2, downL_of h4, ih1 p (hs.take i) hp (by omega), belowL_left hs h2 (by omega)]
      · rw [belowG_right k (by omega), e3, downL_of h5, ea, plusW_small (by omega) (by omega) (by omega) (by omega), ih2 _ (hs.drop _) (by omega) (by omega), belowL_right hs h2 (by omega), n1]
        omega

theorem nth_tree {L : List It} {t : Int} {l : List Pr} (h : Tree L t l) : ∀ (p : Int) (n : Nat), 0 ≤ p → p + l.length ≤ 100000 → nthG L t (p + n) p = l[n]? := by
  induction h with
  | nil => intro p n _ _; rw [nthG_no (by rw [kindL_zero L 0 (by omega)]; omega)]; simp
  | node t x y l i q h1 h2 h3 h4 h5 h6 h7 t1 t2 ih1 ih2 =>
    intro p n hp hl
    obtain ⟨k, e0, e1, e2, e3, _, _⟩ := node_says h3
    have hil := (List.getElem?_eq_some_iff.1 h2).1
    have n1 : (l.take i).length = i := by rw [List.length_take]; omega
    have n2 : (l.drop (i + 1)).length = l.length - (i + 1) := List.length_drop
    have ea := ahead_tree p e2 h4 t1 hp (by omega) (by omega)
    rw [n1] at ea
    by_cases hk : n = i
    · subst hk
      rw [nthG_here k (by omega), h2, e0, e1]
    · by_cases hk2 : n < i
      · rw [nthG_left k (by omega), e2, downL_of h4, ih1 p n hp (by omega), ← nth_left hk2]
      · rw [nthG_right k (by omega), e3, downL_of h5, ea, plusW_small (by omega) (by omega) (by omega) (by omega), nth_right (show i < n by omega), ← ih2 (p + i + 1) (n - (i + 1)) (by omega) (by omega)]
        congr 1
        omega

theorem far_left {L : List It} {t : Int} {l : List Pr} (h : Tree L t l) : farL L 2 t = l[0]? := by
  induction h with
  | nil => rw [farL_no (by rw [kindL_zero L 0 (by omega)]; omega)]; rfl
  | node t x y l i q h1 h2 h3 h4 h5 h6 h7 t1 t2 ih1 ih2 =>
    obtain ⟨k, e0, e1, e2, e3, _, _⟩ := node_says h3
    have hil := (List.getElem?_eq_some_iff.1 h2).1
    rw [farL_yes k, e2, downL_of h4, ih1, e0, e1]
    by_cases hi0 : i = 0
    · subst hi0; rw [h2]; simp
    · rw [List.getElem?_take_of_lt (by omega), List.getElem?_eq_getElem (by omega)]; rfl
theorem far_right {L : List It} {t : Int} {l : List Pr} (h : Tree L t l) : farL L 3 t = l[l.length - 1]? := by
  induction h with
  | nil => rw [farL_no (by rw [kindL_zero L 0 (by omega)]; omega)]; rfl
  | node t x y l i q h1 h2 h3 h4 h5 h6 h7 t1 t2 ih1 ih2 =>
    obtain ⟨k, e0, e1, e2, e3, _, _⟩ := node_says h3
    have hil := (List.getElem?_eq_some_iff.1 h2).1
    rw [farL_yes k, e3, downL_of h5, ih2, e0, e1, List.getElem?_drop, List.length_drop]
    by_cases hi0 : i + 1 = l.length
    · rw [show l.length - 1 = i by omega, h2, List.getElem?_eq_none (by omega)]; simp
    · rw [show i + 1 + (l.length - (i + 1) - 1) = l.length - 1 by omega, List.getElem?_eq_getElem (by omega)]; rfl
end Go.Proofs.Ytbmlpdkbiipcmaa

namespace Go.Proofs.Ytbmlpdkbiipcmaa
open Go.RowKit
set_option linter.all false

/-- What node.Get answers over these items, as long as nothing older turns. -/
def Gets (ao : Option Addr) (L : List It) (w : World) : Prop := ∀ W, Below w.heap.size w W → ∀ id : Int,
  Calls Try.prog 17 #[.pointer ao, .int .i64 id] W fun e w' =>
    e = .returned (.tuple #[.agg #[.int .i64 (nv L id 0), .int .i64 (nv L id 1), .int .i64 (nv L id 2), .int .i64 (nv L id 3), .int .i64 (nv L id 4), .int .i64 (nv L id 5)], .bool (kindL L id == 1)]) ∧ Below W.heap.size W w'
theorem Gets.later {ao : Option Addr} {L : List It} {w W : World} (h : Gets ao L w) (hb : Below w.heap.size w W) : Gets ao L W := fun W' hb' => h W' (hb.trans (hb'.mono hb.size))
theorem Gets.ofArena {w : World} {p : Nat} {F : Nat → Prop} {room st : Int} {L : List It} (h : Arena w p F room st L) : Gets (some ⟨p, 0, none⟩) L w := by
  intro W hb id
  by_cases hk : kindL L id = 1
  · refine (get_yes id W p F room st L (h.below hb) hk).mono fun e w' hh => ?_
    rw [nv_yes hk, nv_yes hk, nv_yes hk, nv_yes hk, nv_yes hk, nv_yes hk, show (kindL L id == 1) = true from by rw [hk]; rfl]
    exact hh
  · refine (get_no id W p F room st L (h.below hb) hk).mono fun e w' hh => ?_
    rw [nv_no hk, nv_no hk, nv_no hk, nv_no hk, nv_no hk, nv_no hk, show (kindL L id == 1) = false from by simpa using hk]
    exact hh
theorem Gets.nil (w : World) : Gets none [] w := by
  intro W hb id
  have hk : kindL [] id = 0 := by unfold kindL itemAt; split <;> simp
  refine (get_nil id W).mono fun e w' hh => ?_
  rw [nv_no (by omega), nv_no (by omega), nv_no (by omega), nv_no (by omega), nv_no (by omega), nv_no (by omega), show (kindL [] id == 1) = false from by rw [hk]; rfl]
  exact hh

/-! ### lower, plus -/

theorem lower_any (t c d : Int) (w : World) (hd : downL [] t c = d) :
    Calls Try.prog 57 #[.int .i64 t, .int .i64 c] w fun e w' => e = .returned (.int .i64 d) ∧ w = w' := by
  subst hd
  unfold downL
  by_cases h : c < t
  · rw [if_pos h]
    go_enter Try.func57, Try.ntmps57
    go_wp2
    go_ret
    exact ⟨rfl, rfl⟩
  · rw [if_neg h]
    go_enter Try.func57, Try.ntmps57
    go_wp2
    go_ret
    exact ⟨rfl, rfl⟩
theorem downL_any (L M : List It) (t c : Int) : downL L t c = downL M t c := rfl

set_option maxHeartbeats 1600000 in
theorem plus_any (m n d : Int) (w : World) (hd : plusW m n = d) :
    Calls Try.prog 68 #[.int .i64 m, .int .i64 n] w fun e w' => e = .returned (.int .i64 d) ∧ w = w' := by
  subst hd
  unfold plusW
  by_cases h0 : 0 < n
  · have h0' : ¬ n < 0 := by omega
    by_cases h1 : wrap64 (9223372036854775807 - n) < m
    · rw [if_pos ⟨h0, h1⟩]
      go_enter Try.func68, Try.ntmps68
      go_wp2
      go_ret
      exact ⟨rfl, rfl⟩
    · rw [if_neg (fun h => h1 h.2), if_neg (fun h => h0' h.1)]
      go_enter Try.func68, Try.ntmps68
      go_wp2
      go_ret
      exact ⟨rfl, rfl⟩
  · rw [if_neg (fun h => h0 h.1)]
    by_cases h2 : n < 0
    · by_cases h1 : m < wrap64 (-9223372036854775808 - n)
      · rw [if_pos ⟨h2, h1⟩]
        go_enter Try.func68, Try.ntmps68
        go_wp2
        go_ret
        exact ⟨rfl, rfl⟩
      · rw [if_neg (fun h => h1 h.2)]
        go_enter Try.func68, Try.ntmps68
        go_wp2
        go_ret
        exact ⟨rfl, rfl⟩
    · rw [if_neg (fun h => h2 h.1)]
      go_enter Try.func68, Try.ntmps68
      go_wp2
      go_ret
      exact ⟨rfl, rfl⟩

/-! ### Size, High -/

set_option maxHeartbeats 1600000 in
theorem size_any {ao : Option Addr} {L : List It} (t d : Int) (w : World) (hg : Gets ao L w) (hd : nv L t 4 = d) :
    Calls Try.prog 61 #[.pointer ao, .int .i64 t] w fun e w' => e = .returned (.int .i64 d) ∧ Below w.heap.size w w' := by
  have cg := hg w (Below.refl _ _) t
  rw [hd] at cg
  obtain ⟨n0, h0⟩ : ∃ n, nv L t 0 = n := ⟨_, rfl⟩
  obtain ⟨n1, h1⟩ : ∃ n, nv L t 1 = n := ⟨_, rfl⟩
  obtain ⟨n2, h2⟩ : ∃ n, nv L t 2 = n := ⟨_, rfl⟩
  obtain ⟨n3, h3⟩ : ∃ n, nv L t 3 = n := ⟨_, rfl⟩
  obtain ⟨n5, h5⟩ : ∃ n, nv L t 5 = n := ⟨_, rfl⟩
  rw [h0, h1, h2, h3, h5] at cg
  clear hg hd h0 h1 h2 h3 h5
  go_enter Try.func61, Try.ntmps61
  go_wp2_with (go_at_call 17; ((with_reducible refine cg.mono ?_); clear cg; rintro e w1 ⟨rfl, hb⟩))
  go_ret
  exact ⟨rfl, hb.alloc hb.size _⟩
end Go.Proofs.Ytbmlpdkbiipcmaa

namespace Go.Proofs.Ytbmlpdkbiipcmaa
open Go.RowKit
set_option linter.all false

/-- What six cells of a block hold. -/
structure NodeAt (W : World) (b : Nat) (m0 m1 m2 m3 m4 m5 : Int) : Prop where
  c0 : W.cell? ⟨b, 0, none⟩ = some (.int .i64 m0)
  c1 : W.cell? ⟨b, 1, none⟩ = some (.int .i64 m1)
  c2 : W.cell? ⟨b, 2, none⟩ = some (.int .i64 m2)
  c3 : W.cell? ⟨b, 3, none⟩ = some (.int .i64 m3)
  c4 : W.cell? ⟨b, 4, none⟩ = some (.int .i64 m4)
  c5 : W.cell? ⟨b, 5, none⟩ = some (.int .i64 m5)
theorem NodeAt.lt {W : World} {b : Nat} {m0 m1 m2 m3 m4 m5 : Int} (h : NodeAt W b m0 m1 m2 m3 m4 m5) : b < W.heap.size := World.block_lt_of_cell? W _ h.c0
theorem NodeAt.keep {W W' : World} {b : Nat} {m0 m1 m2 m3 m4 m5 : Int} (h : NodeAt W b m0 m1 m2 m3 m4 m5) (hb : Below W.heap.size W W') : NodeAt W' b m0 m1 m2 m3 m4 m5 := by
  have hl := h.lt
  have c : ∀ {j v}, W.cell? ⟨b, j, none⟩ = some v → W'.cell? ⟨b, j, none⟩ = some v := fun {j v} hc => (hb.cell (p := ⟨b, j, none⟩) hl).trans hc
  exact ⟨c h.c0, c h.c1, c h.c2, c h.c3, c h.c4, c h.c5⟩
/-- A new block of six cells, that can be written. -/
structure Six (W : World) (b : Nat) (m0 m1 m2 m3 m4 m5 : Int) : Prop extends NodeAt W b m0 m1 m2 m3 m4 m5 where
  f0 : W.frozen? ⟨b, 0, none⟩ = false
  f1 : W.frozen? ⟨b, 1, none⟩ = false
  f2 : W.frozen? ⟨b, 2, none⟩ = false
  f3 : W.frozen? ⟨b, 3, none⟩ = false
  f4 : W.frozen? ⟨b, 4, none⟩ = false
  f5 : W.frozen? ⟨b, 5, none⟩ = false
theorem Six.keep {W W' : World} {b : Nat} {m0 m1 m2 m3 m4 m5 : Int} (h : Six W b m0 m1 m2 m3 m4 m5) (hb : Below W.heap.size W W') : Six W' b m0 m1 m2 m3 m4 m5 := by
  have hl := h.lt
  have f : ∀ {j}, W.frozen? ⟨b, j, none⟩ = false → W'.frozen? ⟨b, j, none⟩ = false := fun {j} hf => (World.frozen?_of_block (a := ⟨b, j, none⟩) (hb.block b hl)).trans hf
  exact ⟨h.toNodeAt.keep hb, f h.f0, f h.f1, f h.f2, f h.f3, f h.f4, f h.f5⟩
theorem Six.new (w : World) (m0 m1 m2 m3 m4 m5 : Int) (t : TypeId) : Six (w.alloc (.cells #[.int .i64 m0, .int .i64 m1, .int .i64 m2, .int .i64 m3, .int .i64 m4, .int .i64 m5] t)) w.heap.size m0 m1 m2 m3 m4 m5 := by
  refine ⟨⟨?_, ?_, ?_, ?_, ?_, ?_⟩, ?_, ?_, ?_, ?_, ?_, ?_⟩ <;> simp
theorem Six.put {W : World} {b : Nat} {m0 m1 m2 m3 m4 m5 : Int} (h : Six W b m0 m1 m2 m3 m4 m5) (u0 u1 u2 u3 u4 u5 : Int) :
    ∃ Wf, Wf = ((((((W.setCell ⟨b, 0, none⟩ (.int .i64 u0)).setCell ⟨b, 1, none⟩ (.int .i64 u1)).setCell ⟨b, 2, none⟩ (.int .i64 u2)).setCell ⟨b, 3, none⟩ (.int .i64 u3)).setCell ⟨b, 4, none⟩ (.int .i64 u4)).setCell ⟨b, 5, none⟩ (.int .i64 u5)) ∧ NodeAt Wf b u0 u1 u2 u3 u4 u5 ∧ Below b W Wf :=
  ⟨_, rfl, ⟨(keepc (keepc (keepc (keepc (keepc (World.cell?_setCell_same _ _ _ h.c0) (by decide)) (by decide)) (by decide)) (by decide)) (by decide)),
    (keepc (keepc (keepc (keepc (World.cell?_setCell_same _ _ _ (keepc h.c1 (by decide))) (by decide)) (by decide)) (by decide)) (by decide)),
    (keepc (keepc (keepc (World.cell?_setCell_same _ _ _ (keepc (keepc h.c2 (by decide)) (by decide))) (by decide)) (by decide)) (by decide)),
    (keepc (keepc (World.cell?_setCell_same _ _ _ (keepc (keepc (keepc h.c3 (by decide)) (by decide)) (by decide))) (by decide)) (by decide)),
    (keepc (World.cell?_setCell_same _ _ _ (keepc (keepc (keepc (keepc h.c4 (by decide)) (by decide)) (by decide)) (by decide))) (by decide)),
    (World.cell?_setCell_same _ _ _ (keepc (keepc (keepc (keepc (keepc h.c5 (by decide)) (by decide)) (by decide)) (by decide)) (by decide)))⟩,
    (Below.setCell (Below.setCell (Below.setCell (Below.setCell (Below.setCell (Below.setCell (Below.refl _ _) (Nat.le_refl b) _) (Nat.le_refl b) _) (Nat.le_refl b) _) (Nat.le_refl b) _) (Nat.le_refl b) _) (Nat.le_refl b) _)⟩

/-- What stands in the loop's node: the number's node, or none. -/
def AtN (L : List It) (id : Int) (B : Bool) (m0 m1 m2 m3 m4 m5 : Int) : Prop :=
  (kindL L id == 1) = B ∧ nv L id 0 = m0 ∧ nv L id 1 = m1 ∧ nv L id 2 = m2 ∧ nv L id 3 = m3 ∧ nv L id 4 = m4 ∧ nv L id 5 = m5
theorem AtN.mk (L : List It) (id : Int) : AtN L id (kindL L id == 1) (nv L id 0) (nv L id 1) (nv L id 2) (nv L id 3) (nv L id 4) (nv L id 5) := ⟨rfl, rfl, rfl, rfl, rfl, rfl, rfl⟩
theorem AtN.no {L : List It} {id : Int} {m0 m1 m2 m3 m4 m5 : Int} (h : AtN L id false m0 m1 m2 m3 m4 m5) : kindL L id ≠ 1 := by
  have := h.1; simpa using this
theorem AtN.yes {L : List It} {id : Int} {m0 m1 m2 m3 m4 m5 : Int} (h : AtN L id true m0 m1 m2 m3 m4 m5) : kindL L id = 1 ∧ valL L id 0 = m0 ∧ valL L id 1 = m1 ∧ valL L id 2 = m2 ∧ valL L id 3 = m3 ∧ valL L id 4 = m4 ∧ valL L id 5 = m5 := by
  have hk : kindL L id = 1 := by have := h.1; simpa using this
  have := h.2
  rw [nv_yes hk, nv_yes hk, nv_yes hk, nv_yes hk, nv_yes hk, nv_yes hk] at this
  exact ⟨hk, this⟩

theorem round_below {w w2 w4 Wf : World} {o : Obj} (h : Below w.heap.size w w2) (hb4 : Below (w2.alloc o).heap.size (w2.alloc o) w4) (rb : Below w2.heap.size w4 Wf) : Below w.heap.size w Wf := (below_past h hb4).trans (rb.mono h.size)

/-- node.Get under one name for each value. -/
theorem Gets.at {ao : Option Addr} {L : List It} {w W : World} (hg : Gets ao L w) (hb : Below w.heap.size w W) (id : Int) : ∃ (B : Bool) (m0 m1 m2 m3 m4 m5 : Int), AtN L id B m0 m1 m2 m3 m4 m5 ∧
    ∀ W, Below w.heap.size w W → Calls Try.prog 17 #[.pointer ao, .int .i64 id] W fun e w' => e = .returned (.tuple #[.agg #[.int .i64 m0, .int .i64 m1, .int .i64 m2, .int .i64 m3, .int .i64 m4, .int .i64 m5], .bool B]) ∧ Below W.heap.size W w' :=
  ⟨_, _, _, _, _, _, _, AtN.mk L id, fun W hb => hg W hb id⟩

set_option maxRecDepth 100000 in
set_option maxHeartbeats 6400000 in
theorem lget_any {ao : Option Addr} {L : List It} (t key : Int) (w : World) (hg : Gets ao L w) (v : Int) (is : Bool) (hv : (getL L t key).getD 0 = v) (his : (getL L t key).isSome = is) :
    Calls Try.prog 42 #[.pointer ao, .int .i64 t, .int .i64 key] w fun e w' => e = .returned (.tuple #[.int .i64 v, .bool is]) ∧ Below w.heap.size w w' := by
  obtain ⟨B, m0, m1, m2, m3, m4, m5, hat, cg⟩ := hg.at (Below.refl _ _) t
  have HAT := Lib.hid hat
  have HG := Lib.hid hg
  have HV := Lib.hid (And.intro hv his)
  clear hat hv his hg
  go_enter Try.func42, Try.ntmps42
  go_wp2_with (go_at_call 17; ((with_reducible refine (cg _ (Below.refl _ _)).mono ?_); clear cg; rintro e w1 ⟨rfl, hb⟩))
  go_loopw [1, 8, 9] (fun tt n ok wr => ∃ (id : Int) (b : Nat) (B : Bool) (m0 m1 m2 m3 m4 m5 : Int), tt = .int .i64 id ∧ n = .pointer (some ⟨b, 0, none⟩) ∧ ok = .bool B ∧ w.heap.size ≤ b ∧ NodeAt wr b m0 m1 m2 m3 m4 m5 ∧ AtN L id B m0 m1 m2 m3 m4 m5 ∧ getL L id key = getL L t key ∧ Below w.heap.size w wr) (fun tt _ _ _ => (intOf tt).toNat)
  case atStart => exact ⟨t, _, B, m0, m1, m2, m3, m4, m5, rfl, rfl, rfl, hb.size, (Six.new w1 m0 m1 m2 m3 m4 m5 _).toNodeAt, HAT.out, rfl, hb.alloc hb.size _⟩
  case round =>
    clear hb HAT
    obtain ⟨id, b, B', k0, k1, k2, k3, k4, k5, rfl, rfl, rfl, hlb, hN, hat, hge, hb⟩ := hrel
    cases B'
    · have HGE := Lib.hid hge
      have HNO := Lib.hid hat.no
      clear hat hN hge
      go_wp2_with (fail)
      go_ret2
      obtain ⟨rfl, rfl⟩ := HV.out
      have e : getL L t key = none := by rw [← HGE.out]; exact getL_no HNO.out
      rw [e]
      exact ⟨rfl, hb⟩
    · obtain ⟨hk, e0, e1, e2, e3, e4, e5⟩ := hat.yes
      have hdl := fun c => downL_lt (c := c) hk
      have HDL := Lib.hid hdl
      have HGE := Lib.hid hge
      have HN := Lib.hid hN
      clear hge hdl hat
      by_cases hkey : k0 = key
      · have ch := fun W => holds_any k0 k1 k2 k3 k4 k5 key W
        rw [show (k0 == key) = true by simpa using hkey] at ch
        have HR := Lib.hid (show getL L id key = some k1 by rw [getL_here hk (e0.trans hkey), e1])
        obtain ⟨c0, c1, c2, c3, c4, c5⟩ := hN
        clear hk e0 e1 e2 e3 e4 e5 hkey
        go_wp2_with (go_at_call 54; ((with_reducible refine (ch _).mono ?_); clear ch; rintro e w2 ⟨rfl, hb2⟩; obtain ⟨d0, d1, d2, d3, d4, d5⟩ := HN.out.keep hb2; clear c0 c1 c2 c3 c4 c5))
        go_ret2
        obtain ⟨rfl, rfl⟩ := HV.out
        rw [← HGE.out, HR.out]
        exact ⟨rfl, hb.trans (hb2.mono hb.size)⟩
      · have ch := fun W => holds_any k0 k1 k2 k3 k4 k5 key W
        rw [show (k0 == key) = false by simpa using hkey] at ch
        by_cases hks : key < k0
        · have hks' : key < k0 := hks
          obtain ⟨d, hd⟩ : ∃ d, downL L id k2 = d := ⟨_, rfl⟩
          obtain ⟨B2, j0, j1, j2, j3, j4, j5, hat2, cg⟩ := HG.out.at hb d
          have HAT2 := Lib.hid hat2
          have HR := Lib.hid (show getL L d key = getL L t key by rw [← HGE.out, getL_left hk (by omega), e2, hd])
          have HLT := Lib.hid (show d.toNat < id.toNat by rw [← hd]; exact HDL.out _)
          have cl := fun W => lower_any id k2 d W hd
          obtain ⟨c0, c1, c2, c3, c4, c5⟩ := hN
          clear hk e0 e1 e2 e3 e4 e5 hkey hd hat2
          go_wp2_with (first
            | (go_at_call 54; ((with_reducible refine (ch _).mono ?_); clear ch; rintro e w2 ⟨rfl, hb2⟩; obtain ⟨d0, d1, d2, d3, d4, d5⟩ := HN.out.keep hb2; clear c0 c1 c2 c3 c4 c5))
            | (go_at_call 57; ((with_reducible refine (cl _).mono ?_); clear cl; rintro e w3 ⟨rfl, rfl⟩))
            | (go_at_call 17; ((with_reducible refine (cg _ ((hb.trans (hb2.mono hb.size)).alloc (hb.trans (hb2.mono hb.size)).size _)).mono ?_); clear cg; rintro e w4 ⟨rfl, hb4⟩; have s4 := (Six.new w2 k0 k1 k2 k3 k4 k5 _).keep hb4; obtain ⟨Wf, hWf, hNf, rb⟩ := s4.put j0 j1 j2 j3 j4 j5; have HS := Lib.hid (And.intro hNf rb); clear hNf rb; obtain ⟨⟨z0, z1, z2, z3, z4, z5⟩, f0, f1, f2, f3, f4, f5⟩ := s4; have HWF := Lib.hid hWf; clear hWf)))
          go_roundw
          case rel =>
            rw [← HWF.out]
            exact ⟨d, _, B2, j0, j1, j2, j3, j4, j5, rfl, rfl, rfl, (hb.trans (hb2.mono hb.size)).size, HS.out.1, HAT2.out, HR.out, round_below (hb.trans (hb2.mono hb.size)) hb4 HS.out.2⟩
          case measure => exact HLT.out
        · have hks' : ¬ key < k0 := hks
          obtain ⟨d, hd⟩ : ∃ d, downL L id k3 = d := ⟨_, rfl⟩
          obtain ⟨B2, j0, j1, j2, j3, j4, j5, hat2, cg⟩ := HG.out.at hb d
          have HAT2 := Lib.hid hat2
          have HR := Lib.hid (show getL L d key = getL L t key by rw [← HGE.out, getL_right hk (by omega), e3, hd])
          have HLT := Lib.hid (show d.toNat < id.toNat by rw [← hd]; exact HDL.out _)
          have cl := fun W => lower_any id k3 d W hd
          obtain ⟨c0, c1, c2, c3, c4, c5⟩ := hN
          clear hk e0 e1 e2 e3 e4 e5 hkey hd hat2
          go_wp2_with (first
            | (go_at_call 54; ((with_reducible refine (ch _).mono ?_); clear ch; rintro e w2 ⟨rfl, hb2⟩; obtain ⟨d0, d1, d2, d3, d4, d5⟩ := HN.out.keep hb2; clear c0 c1 c2 c3 c4 c5))
            | (go_at_call 57; ((with_reducible refine (cl _).mono ?_); clear cl; rintro e w3 ⟨rfl, rfl⟩))
            | (go_at_call 17; ((with_reducible refine (cg _ ((hb.trans (hb2.mono hb.size)).alloc (hb.trans (hb2.mono hb.size)).size _)).mono ?_); clear cg; rintro e w4 ⟨rfl, hb4⟩; have s4 := (Six.new w2 k0 k1 k2 k3 k4 k5 _).keep hb4; obtain ⟨Wf, hWf, hNf, rb⟩ := s4.put j0 j1 j2 j3 j4 j5; have HS := Lib.hid (And.intro hNf rb); clear hNf rb; obtain ⟨⟨z0, z1, z2, z3, z4, z5⟩, f0, f1, f2, f3, f4, f5⟩ := s4; have HWF := Lib.hid hWf; clear hWf)))
          go_roundw
          case rel =>
            rw [← HWF.out]
            exact ⟨d, _, B2, j0, j1, j2, j3, j4, j5, rfl, rfl, rfl, (hb.trans (hb2.mono hb.size)).size, HS.out.1, HAT2.out, HR.out, round_below (hb.trans (hb2.mono hb.size)) hb4 HS.out.2⟩
          case measure => exact HLT.out
end Go.Proofs.Ytbmlpdkbiipcmaa

namespace Go.Proofs.Ytbmlpdkbiipcmaa
open Go.RowKit
set_option linter.all false

end Go.Proofs.Ytbmlpdkbiipcmaa

namespace Go.Proofs.Ytbmlpdkbiipcmaa
open Go.RowKit
set_option linter.all false

/-- A block of two cells that can be written. -/
structure Two (W : World) (b : Nat) (m0 m1 : Int) : Prop where
  c0 : W.cell? ⟨b, 0, none⟩ = some (.int .i64 m0)
  c1 : W.cell? ⟨b, 1, none⟩ = some (.int .i64 m1)
  f0 : W.frozen? ⟨b, 0, none⟩ = false
  f1 : W.frozen? ⟨b, 1, none⟩ = false
theorem Two.lt {W : World} {b : Nat} {m0 m1 : Int} (h : Two W b m0 m1) : b < W.heap.size := World.block_lt_of_cell? W _ h.c0
theorem Two.keep {W W' : World} {b : Nat} {m0 m1 : Int} (h : Two W b m0 m1) (hb : Below W.heap.size W W') : Two W' b m0 m1 := by
  have hl := h.lt
  have c : ∀ {j v}, W.cell? ⟨b, j, none⟩ = some v → W'.cell? ⟨b, j, none⟩ = some v := fun {j v} hc => (hb.cell (p := ⟨b, j, none⟩) hl).trans hc
  have f : ∀ {j}, W.frozen? ⟨b, j, none⟩ = false → W'.frozen? ⟨b, j, none⟩ = false := fun {j} hf => (World.frozen?_of_block (a := ⟨b, j, none⟩) (hb.block b hl)).trans hf
  exact ⟨c h.c0, c h.c1, f h.f0, f h.f1⟩
theorem Two.new (w : World) (m0 m1 : Int) (t : TypeId) : Two (w.alloc (.cells #[.int .i64 m0, .int .i64 m1] t)) w.heap.size m0 m1 := by
  constructor <;> simp
theorem Two.past {W : World} {b : Nat} {m0 m1 : Int} (h : Two W b m0 m1) (o : Obj) : Two (W.alloc o) b m0 m1 := h.keep ((Below.refl _ _).alloc (Nat.le_refl _) _)
theorem Two.put {W : World} {b : Nat} {m0 m1 : Int} (h : Two W b m0 m1) (u0 u1 : Int) :
    ∃ Wf, Wf = ((W.setCell ⟨b, 0, none⟩ (.int .i64 u0)).setCell ⟨b, 1, none⟩ (.int .i64 u1)) ∧ Wf.cell? ⟨b, 0, none⟩ = some (.int .i64 u0) ∧ Wf.cell? ⟨b, 1, none⟩ = some (.int .i64 u1) ∧ Below b W Wf :=
  ⟨_, rfl, keepc (World.cell?_setCell_same _ _ _ h.c0) (by decide), World.cell?_setCell_same _ _ _ (keepc h.c1 (by decide)),
    Below.setCell (Below.setCell (Below.refl _ _) (Nat.le_refl b) _) (Nat.le_refl b) _⟩

theorem Two.under {W W' : World} {b n : Nat} {m0 m1 : Int} (h : Two W b m0 m1) (hb : Below n W W') (hn : b < n) : Two W' b m0 m1 := by
  have c : ∀ {j v}, W.cell? ⟨b, j, none⟩ = some v → W'.cell? ⟨b, j, none⟩ = some v := fun {j v} hc => (hb.cell (p := ⟨b, j, none⟩) hn).trans hc
  have f : ∀ {j}, W.frozen? ⟨b, j, none⟩ = false → W'.frozen? ⟨b, j, none⟩ = false := fun {j} hf => (World.frozen?_of_block (a := ⟨b, j, none⟩) (hb.block b hn)).trans hf
  exact ⟨c h.c0, c h.c1, f h.f0, f h.f1⟩

/-- What Nth tells. -/
def nthL (L : List It) (t i : Int) : Option Pr := if i < 0 ∨ nv L t 4 ≤ i then none else nthG L t i 0
theorem nthL_tree {L : List It} {t : Int} {l : List Pr} (h : Tree L t l) (hl : l.length ≤ 10000) (i : Int) : nthL L t i = if i < 0 then none else l[i.toNat]? := by
  unfold nthL
  rw [h.size.1]
  by_cases h0 : i < 0
  · rw [if_pos (.inl h0), if_pos h0]
  · rw [if_neg h0]
    by_cases h1 : (l.length : Int) ≤ i
    · rw [if_pos (.inr h1), List.getElem?_eq_none (by omega)]
    · rw [if_neg (by omega), ← nth_tree h 0 i.toNat (by omega) (by omega)]
      congr 1
      omega

set_option maxRecDepth 100000 in
set_option maxHeartbeats 6400000 in
theorem lnth_any {ao : Option Addr} {L : List It} (t i : Int) (w : World) (hg : Gets ao L w) (q0 q1 : Int) (is : Bool) (hv : (nthL L t i).getD (0, 0) = (q0, q1)) (his : (nthL L t i).isSome = is) :
    Calls Try.prog 62 #[.pointer ao, .int .i64 t, .int .i64 i] w fun e w' => e = .returned (.tuple #[.agg #[.int .i64 q0, .int .i64 q1], .bool is]) ∧ Below w.heap.size w w' := by
  obtain ⟨B, m0, m1, m2, m3, m4, m5, hat, cg⟩ := hg.at (Below.refl _ _) t
  obtain ⟨sz0, hsz0⟩ : ∃ z, nv L t 4 = z := ⟨_, rfl⟩
  have cs0 := fun W hB => size_any t sz0 W (hg.later hB) hsz0
  have ba : ∀ o, Below w.heap.size w (w.alloc o) := fun o => (Below.refl _ _).alloc (Nat.le_refl _) _
  by_cases hi0 : i < 0
  · have e : nthL L t i = none := if_pos (.inl hi0)
    rw [e] at hv his
    cases hv
    subst his
    clear hat cg e hsz0 cs0 hg ba
    go_enter Try.func62, Try.ntmps62
    go_wp2_with (fail)
    refine bodyPost_ret (v := .tuple #[.agg #[.int .i64 0, .int .i64 0], .bool false]) (by simp [results, Try.results62, go_sem]) rfl ⟨rfl, ?_⟩
    exact (Below.refl _ _).alloc (Nat.le_refl _) _
  · by_cases hi1 : sz0 ≤ i
    · have e : nthL L t i = none := if_pos (.inr (by omega))
      rw [e] at hv his
      cases hv
      subst his
      clear hat cg e hsz0 hg
      go_enter Try.func62, Try.ntmps62
      go_wp2_with (go_at_call 61; ((with_reducible refine (cs0 _ (ba _)).mono ?_); clear cs0; rintro ee wz ⟨rfl, hbz⟩; have hT := (Two.new w 0 0 _).keep hbz; obtain ⟨Wf, hWf, r0, r1, rb⟩ := hT.put 0 0; obtain ⟨z0, z1, f0, f1⟩ := hT; have b1 := (ba _).trans (hbz.mono (ba _).size); clear ba hbz))
      rw [← hWf]
      clear hWf z0 z1 f0 f1
      refine bodyPost_ret (v := .tuple #[.agg #[.int .i64 0, .int .i64 0], .bool false]) (by simp [results, Try.results62, go_sem, r0, r1]) rfl ⟨rfl, b1.trans rb⟩
    · have hi1' : ¬ sz0 ≤ i := hi1
      have e : nthL L t i = nthG L t i 0 := if_neg (by omega)
      rw [e] at hv his
      have HAT := Lib.hid hat
      have HG := Lib.hid hg
      have HV := Lib.hid (And.intro hv his)
      clear hat hv his e hsz0 hg
      go_enter Try.func62, Try.ntmps62
      go_wp2_with (first
        | (go_at_call 61; ((with_reducible refine (cs0 _ (ba _)).mono ?_); clear cs0; rintro ee wz ⟨rfl, hbz⟩; have hT0 := Lib.hid ((Two.new w 0 0 _).keep hbz); have b0 := (ba _).trans (hbz.mono (ba _).size); clear ba hbz))
        | (go_at_call 17; ((with_reducible refine (cg _ b0).mono ?_); clear cg; rintro ee w1 ⟨rfl, hb'⟩; have hT1 := Lib.hid (hT0.out.keep hb'); have hb := b0.trans (hb'.mono b0.size))))
      go_loopw [1, 8, 9, 10] (fun tt ps n ok wr => ∃ (id pa : Int) (b : Nat) (B : Bool) (m0 m1 m2 m3 m4 m5 : Int), tt = .int .i64 id ∧ ps = .int .i64 pa ∧ n = .pointer (some ⟨b, 0, none⟩) ∧ ok = .bool B ∧ w.heap.size ≤ b ∧ NodeAt wr b m0 m1 m2 m3 m4 m5 ∧ AtN L id B m0 m1 m2 m3 m4 m5 ∧ nthG L id i pa = nthG L t i 0 ∧ Two wr w.heap.size 0 0 ∧ Below w.heap.size w wr) (fun tt _ _ _ _ => (intOf tt).toNat)
      case atStart => exact ⟨t, 0, _, B, m0, m1, m2, m3, m4, m5, rfl, rfl, rfl, rfl, hb.size, (Six.new w1 m0 m1 m2 m3 m4 m5 _).toNodeAt, HAT.out, rfl, hT1.out.past _, hb.alloc hb.size _⟩
      case round =>
        clear hb HAT b0 hT0 hT1 hb'
        obtain ⟨id, pa, b, B', k0, k1, k2, k3, k4, k5, rfl, rfl, rfl, rfl, hlb, hN, hat, hge, hT, hb⟩ := hrel
        cases B'
        · have HGE := Lib.hid hge
          have HNO := Lib.hid hat.no
          obtain ⟨Wf, hWf, r0, r1, rb⟩ := hT.put 0 0
          obtain ⟨z0, z1, f0, f1⟩ := hT
          have HWF := Lib.hid hWf
          clear hat hN hge hWf
          go_wp2_with (fail)
          rw [← HWF.out]
          obtain ⟨hv, rfl⟩ := HV.out
          have e : nthG L t i 0 = none := by rw [← HGE.out]; exact nthG_no HNO.out
          rw [e] at hv ⊢
          cases hv
          clear HWF z0 z1 f0 f1
          refine bodyPost_ret (v := .tuple #[.agg #[.int .i64 0, .int .i64 0], .bool false]) (by simp [results, Try.results62, go_sem, r0, r1]) rfl ⟨rfl, hb.trans rb⟩
        · obtain ⟨hk, e0, e1, e2, e3, e4, e5⟩ := hat.yes
          have hdl := fun c => downL_lt (c := c) hk
          have HDL := Lib.hid hdl
          have HGE := Lib.hid hge
          have HN := Lib.hid hN
          have HT := Lib.hid hT
          obtain ⟨dl, hdl'⟩ : ∃ d, downL L id k2 = d := ⟨_, rfl⟩
          obtain ⟨sz, hsz⟩ : ∃ z, nv L dl 4 = z := ⟨_, rfl⟩
          obtain ⟨ah, hah⟩ : ∃ z, plusW pa sz = z := ⟨_, rfl⟩
          have hahead : aheadL L id pa = ah := by unfold aheadL; rw [e2, hdl', hsz, hah]
          have cl1 := fun W => lower_any id k2 dl W hdl'
          have cs := fun W hB => size_any dl sz W (HG.out.later hB) hsz
          have cp1 := fun W => plus_any pa sz ah W hah
          clear hge hdl hat hah hsz hT
          by_cases hkey : ah = i
          · have hkey' : (ah == i) = true := by simpa using hkey
            have HR := Lib.hid (show nthG L id i pa = some (k0, k1) by rw [nthG_here hk (hahead.trans hkey), e0, e1])
            obtain ⟨c0, c1, c2, c3, c4, c5⟩ := hN
            clear hk e0 e1 e2 e3 e4 e5 hkey hahead hdl'
            go_wp2_with (first
              | (go_at_call 57; ((with_reducible refine (cl1 _).mono ?_); clear cl1; rintro e w3 ⟨rfl, rfl⟩))
              | (go_at_call 61; ((with_reducible refine (cs _ hb).mono ?_); clear cs; rintro e wz2 ⟨rfl, hbz⟩; have N2 := Lib.hid (HN.out.keep hbz); have hb1 := hb.trans (hbz.mono hb.size); have hT2 := HT.out.keep hbz; obtain ⟨Wf, hWf, r0, r1, rb⟩ := hT2.put k0 k1; have HWF := Lib.hid hWf; clear hWf; obtain ⟨z0, z1, f0, f1⟩ := hT2; obtain ⟨c0, c1, c2, c3, c4, c5⟩ := N2.out))
              | (go_at_call 68; ((with_reducible refine (cp1 _).mono ?_); clear cp1; rintro e w3 ⟨rfl, rfl⟩)))
            rw [← HWF.out]
            obtain ⟨hv, rfl⟩ := HV.out
            rw [← HGE.out, HR.out] at hv ⊢
            cases hv
            clear HWF z0 z1 f0 f1
            refine bodyPost_ret (v := .tuple #[.agg #[.int .i64 q0, .int .i64 q1], .bool true]) (by simp [results, Try.results62, go_sem, r0, r1]) rfl ⟨rfl, hb1.trans rb⟩
          · have hkey' : (ah == i) = false := by simpa using hkey
            by_cases hks : i < ah
            · have hks' : i < ah := hks
              obtain ⟨B2, j0, j1, j2, j3, j4, j5, hat2, cg⟩ := HG.out.at hb dl
              have HAT2 := Lib.hid hat2
              have HR := Lib.hid (show nthG L dl i pa = nthG L t i 0 by rw [← HGE.out, nthG_left hk (by omega), e2, hdl'])
              have HLT := Lib.hid (show dl.toNat < id.toNat by rw [← hdl']; exact HDL.out _)
              obtain ⟨c0, c1, c2, c3, c4, c5⟩ := hN
              clear hk e0 e1 e2 e3 e4 e5 hkey hdl' hat2 hahead
              go_wp2_with (first
                | (go_at_call 57; ((with_reducible refine (cl1 _).mono ?_); clear cl1; rintro e w3 ⟨rfl, rfl⟩))
                | (go_at_call 61; ((with_reducible refine (cs _ hb).mono ?_); clear cs; rintro e w2 ⟨rfl, hbz⟩; have N2 := Lib.hid (HN.out.keep hbz); have hb1 := hb.trans (hbz.mono hb.size); have HT2 := Lib.hid (HT.out.keep hbz); obtain ⟨c0, c1, c2, c3, c4, c5⟩ := N2.out))
                | (go_at_call 68; ((with_reducible refine (cp1 _).mono ?_); clear cp1; rintro e w3 ⟨rfl, rfl⟩))
                | (go_at_call 17; ((with_reducible refine (cg _ (hb1.alloc hb1.size _)).mono ?_); clear cg; rintro e w4 ⟨rfl, hb4⟩; have s4 := (Six.new w2 k0 k1 k2 k3 k4 k5 _).keep hb4; have HT3 := Lib.hid ((HT2.out.past _).keep hb4); obtain ⟨Wf, hWf, hNf, rb⟩ := s4.put j0 j1 j2 j3 j4 j5; have HS := Lib.hid (And.intro hNf rb); clear hNf rb; obtain ⟨⟨z0, z1, z2, z3, z4, z5⟩, f0, f1, f2, f3, f4, f5⟩ := s4; have HWF := Lib.hid hWf; clear hWf)))
              go_roundw
              case rel =>
                rw [← HWF.out]
                exact ⟨dl, pa, _, B2, j0, j1, j2, j3, j4, j5, rfl, rfl, rfl, rfl, hb1.size, HS.out.1, HAT2.out, HR.out, HT3.out.under HS.out.2 HT2.out.lt, round_below hb1 hb4 HS.out.2⟩
              case measure => exact HLT.out
            · have hks' : ¬ i < ah := hks
              obtain ⟨d, hd⟩ : ∃ d, downL L id k3 = d := ⟨_, rfl⟩
              obtain ⟨p2, hp2⟩ : ∃ d, plusW ah 1 = d := ⟨_, rfl⟩
              have cl2 := fun W => lower_any id k3 d W hd
              have cp2 := fun W => plus_any ah 1 p2 W hp2
              obtain ⟨B2, j0, j1, j2, j3, j4, j5, hat2, cg⟩ := HG.out.at hb d
              have HAT2 := Lib.hid hat2
              have HR := Lib.hid (show nthG L d i p2 = nthG L t i 0 by rw [← HGE.out, nthG_right hk (by omega), e3, hd, hahead, hp2])
              have HLT := Lib.hid (show d.toNat < id.toNat by rw [← hd]; exact HDL.out _)
              obtain ⟨c0, c1, c2, c3, c4, c5⟩ := hN
              clear hk e0 e1 e2 e3 e4 e5 hkey hdl' hat2 hahead hd hp2
              go_wp2_with (first
                | (go_at_call 57; ((with_reducible refine (cl1 _).mono ?_); clear cl1; rintro e w3 ⟨rfl, rfl⟩))
                | (go_at_call 57; ((with_reducible refine (cl2 _).mono ?_); clear cl2; rintro e w3 ⟨rfl, rfl⟩))
                | (go_at_call 61; ((with_reducible refine (cs _ hb).mono ?_); clear cs; rintro e w2 ⟨rfl, hbz⟩; have N2 := Lib.hid (HN.out.keep hbz); have hb1 := hb.trans (hbz.mono hb.size); have HT2 := Lib.hid (HT.out.keep hbz); obtain ⟨c0, c1, c2, c3, c4, c5⟩ := N2.out))
                | (go_at_call 68; ((with_reducible refine (cp1 _).mono ?_); clear cp1; rintro e w3 ⟨rfl, rfl⟩))
                | (go_at_call 68; ((with_reducible refine (cp2 _).mono ?_); clear cp2; rintro e w3 ⟨rfl, rfl⟩))
                | (go_at_call 17; ((with_reducible refine (cg _ (hb1.alloc hb1.size _)).mono ?_); clear cg; rintro e w4 ⟨rfl, hb4⟩; have s4 := (Six.new w2 k0 k1 k2 k3 k4 k5 _).keep hb4; have HT3 := Lib.hid ((HT2.out.past _).keep hb4); obtain ⟨Wf, hWf, hNf, rb⟩ := s4.put j0 j1 j2 j3 j4 j5; have HS := Lib.hid (And.intro hNf rb); clear hNf rb; obtain ⟨⟨z0, z1, z2, z3, z4, z5⟩, f0, f1, f2, f3, f4, f5⟩ := s4; have HWF := Lib.hid hWf; clear hWf)))
              go_roundw
              case rel =>
                rw [← HWF.out]
                exact ⟨d, p2, _, B2, j0, j1, j2, j3, j4, j5, rfl, rfl, rfl, rfl, hb1.size, HS.out.1, HAT2.out, HR.out, HT3.out.under HS.out.2 HT2.out.lt, round_below hb1 hb4 HS.out.2⟩
              case measure => exact HLT.out
end Go.Proofs.Ytbmlpdkbiipcmaa

namespace Go.Proofs.Ytbmlpdkbiipcmaa
open Go.RowKit
set_option linter.all false

theorem Six.past {W : World} {b : Nat} {m0 m1 m2 m3 m4 m5 : Int} (h : Six W b m0 m1 m2 m3 m4 m5) (o : Obj) : Six (W.alloc o) b m0 m1 m2 m3 m4 m5 := h.keep ((Below.refl _ _).alloc (Nat.le_refl _) _)
theorem Six.under {W W' : World} {b n : Nat} {m0 m1 m2 m3 m4 m5 : Int} (h : Six W b m0 m1 m2 m3 m4 m5) (hb : Below n W W') (hn : b < n) : Six W' b m0 m1 m2 m3 m4 m5 := by
  have c : ∀ {j v}, W.cell? ⟨b, j, none⟩ = some v → W'.cell? ⟨b, j, none⟩ = some v := fun {j v} hc => (hb.cell (p := ⟨b, j, none⟩) hn).trans hc
  have f : ∀ {j}, W.frozen? ⟨b, j, none⟩ = false → W'.frozen? ⟨b, j, none⟩ = false := fun {j} hf => (World.frozen?_of_block (a := ⟨b, j, none⟩) (hb.block b hn)).trans hf
  exact ⟨⟨c h.c0, c h.c1, c h.c2, c h.c3, c h.c4, c h.c5⟩, f h.f0, f h.f1, f h.f2, f h.f3, f h.f4, f h.f5⟩

theorem NodeAt.only {W W' : World} {S : Nat → Prop} {b : Nat} {m0 m1 m2 m3 m4 m5 : Int} (h : NodeAt W b m0 m1 m2 m3 m4 m5) (o : Only S W W') (hb : ¬ S b) : NodeAt W' b m0 m1 m2 m3 m4 m5 :=
  ⟨o.cell h.c0 hb, o.cell h.c1 hb, o.cell h.c2 hb, o.cell h.c3 hb, o.cell h.c4 hb, o.cell h.c5 hb⟩
theorem Two.only {W W' : World} {S : Nat → Prop} {b : Nat} {m0 m1 : Int} (h : Two W b m0 m1) (o : Only S W W') (hb : ¬ S b) : Two W' b m0 m1 :=
  have f : ∀ {j}, W.frozen? ⟨b, j, none⟩ = false → W'.frozen? ⟨b, j, none⟩ = false := fun {j} hf => (World.frozen?_of_block (a := ⟨b, j, none⟩) (o.block b h.lt hb)).trans hf
  ⟨o.cell h.c0 hb, o.cell h.c1 hb, f h.f0, f h.f1⟩
theorem Only.setAt {a W : World} {b j : Nat} (h : Only (fun k => k = b) a W) (u : Value) : Only (fun k => k = b) a (W.setCell ⟨b, j, none⟩ u) := Only.setCell (p := ⟨b, j, none⟩) h (.inl rfl) u
/-- All six cells written: still six that can be written; nothing else has turned. -/
theorem Six.put6 {W : World} {b : Nat} {m0 m1 m2 m3 m4 m5 : Int} (h : Six W b m0 m1 m2 m3 m4 m5) (u0 u1 u2 u3 u4 u5 : Int) :
    ∃ Wf, Wf = ((((((W.setCell ⟨b, 0, none⟩ (.int .i64 u0)).setCell ⟨b, 1, none⟩ (.int .i64 u1)).setCell ⟨b, 2, none⟩ (.int .i64 u2)).setCell ⟨b, 3, none⟩ (.int .i64 u3)).setCell ⟨b, 4, none⟩ (.int .i64 u4)).setCell ⟨b, 5, none⟩ (.int .i64 u5)) ∧ Six Wf b u0 u1 u2 u3 u4 u5 ∧ Only (fun k => k = b) W Wf ∧ Below b W Wf := by
  obtain ⟨Wf, e, hN, hB⟩ := h.put u0 u1 u2 u3 u4 u5
  refine ⟨Wf, e, ⟨hN, ?_, ?_, ?_, ?_, ?_, ?_⟩, ?_, hB⟩
  · rw [e]; simp only [World.frozen?_setCell]; exact h.f0
  · rw [e]; simp only [World.frozen?_setCell]; exact h.f1
  · rw [e]; simp only [World.frozen?_setCell]; exact h.f2
  · rw [e]; simp only [World.frozen?_setCell]; exact h.f3
  · rw [e]; simp only [World.frozen?_setCell]; exact h.f4
  · rw [e]; simp only [World.frozen?_setCell]; exact h.f5
  · rw [e]
    exact ((((((Only.refl (fun k => k = b) W).setAt _).setAt _).setAt _).setAt _).setAt _).setAt _

/-! ### The two ways down -/

theorem sideL_any (v0 v1 v2 v3 v4 v5 : Int) (w : World) :
    Calls Try.prog 67 #[.agg #[.int .i64 v0, .int .i64 v1, .int .i64 v2, .int .i64 v3, .int .i64 v4, .int .i64 v5]] w fun e w' => e = .returned (.int .i64 v2) ∧ Below w.heap.size w w' := by
  go_enter Try.func67, Try.ntmps67
  go_wp2
  go_ret
  exact ⟨rfl, (Below.refl _ _).alloc (Nat.le_refl _) _⟩
theorem sideR_any (v0 v1 v2 v3 v4 v5 : Int) (w : World) :
    Calls Try.prog 66 #[.agg #[.int .i64 v0, .int .i64 v1, .int .i64 v2, .int .i64 v3, .int .i64 v4, .int .i64 v5]] w fun e w' => e = .returned (.int .i64 v3) ∧ Below w.heap.size w w' := by
  go_enter Try.func66, Try.ntmps66
  go_wp2
  go_ret
  exact ⟨rfl, (Below.refl _ _).alloc (Nat.le_refl _) _⟩


set_option maxRecDepth 100000 in
set_option maxHeartbeats 6400000 in
theorem farL_any {ao : Option Addr} {L : List It} (t : Int) (w : World) (hg : Gets ao L w) (q0 q1 : Int) (is : Bool) (hv : (farL L 2 t).getD (0, 0) = (q0, q1)) (his : (farL L 2 t).isSome = is) :
    Calls Try.prog 65 #[.pointer ao, .int .i64 t, .func (.func 67) #[] #[]] w fun e w' => e = .returned (.tuple #[.agg #[.int .i64 q0, .int .i64 q1], .bool is]) ∧ Below w.heap.size w w' := by
  obtain ⟨B, m0, m1, m2, m3, m4, m5, hat, cg⟩ := hg.at (Below.refl _ _) t
  have ba : ∀ o, Below w.heap.size w (w.alloc o) := fun o => (Below.refl _ _).alloc (Nat.le_refl _) _
  have hBis : B = is := by
    cases B
    · rw [← his, farL_no hat.no]; rfl
    · rw [← his, farL_yes hat.yes.1]; rfl
  subst hBis
  have hst : (farL L 2 t).getD (0, 0) = (farL L 2 t).getD (m0, m1) := by
    cases B
    · have hk := hat.no
      obtain ⟨_, a0, a1, _⟩ := hat
      rw [nv_no hk] at a0 a1
      rw [← a0, ← a1]
    · rw [farL_yes hat.yes.1]; rfl
  have HST := Lib.hid hst
  have HAT := Lib.hid hat
  have HG := Lib.hid hg
  have HV := Lib.hid hv
  clear hat hv his hg hst
  go_enter Try.func65, Try.ntmps65
  go_wp2_with (go_at_call 17; ((with_reducible refine (cg _ (ba _)).mono ?_); clear cg; rintro e w1 ⟨rfl, hb1⟩; have hT1 := (Two.new w 0 0 _).keep hb1; have HT1 := Lib.hid hT1; have hb := (ba _).trans (hb1.mono (ba _).size); have hsz : w.heap.size < w1.heap.size := by have := hb1.size; simp at this; omega))
  have hN1 := Six.new w1 m0 m1 m2 m3 m4 m5 41
  go_loopw [1, 10, 11] (fun tt n ok wr => ∃ (id : Int) (b : Nat) (B' : Bool) (k0 k1 k2 k3 k4 k5 l0 l1 l2 l3 l4 l5 : Int), tt = .int .i64 id ∧ n = .pointer (some ⟨b, 0, none⟩) ∧ ok = .bool B' ∧ w1.heap.size < b ∧ NodeAt wr b k0 k1 k2 k3 k4 k5 ∧ AtN L id B' k0 k1 k2 k3 k4 k5 ∧ Six wr w1.heap.size l0 l1 l2 l3 l4 l5 ∧ Two wr w.heap.size 0 0 ∧ (farL L 2 t).getD (0, 0) = (farL L 2 id).getD (l0, l1) ∧ Below w.heap.size w wr) (fun tt _ _ _ => (intOf tt).toNat)
  case atStart =>
    refine ⟨t, _, B, m0, m1, m2, m3, m4, m5, m0, m1, m2, m3, m4, m5, rfl, rfl, rfl, ?_, (by simpa using (Six.new (w1.alloc (.cells #[.int .i64 m0, .int .i64 m1, .int .i64 m2, .int .i64 m3, .int .i64 m4, .int .i64 m5] 41)) m0 m1 m2 m3 m4 m5 41).toNodeAt), HAT.out, hN1.past _, (HT1.out.past _).past _, HST.out, (hb.alloc hb.size _).alloc (Nat.le_trans hb.size (by simp)) _⟩
    simp
  case round =>
    clear hb HAT HT1 HST hN1 hb1 hT1 ba
    obtain ⟨id, b, B', k0, k1, k2, k3, k4, k5, l0, l1, l2, l3, l4, l5, rfl, rfl, rfl, hlb, hN, hat, hS, hT, hge, hb⟩ := hrel
    cases B'
    · have HGE := Lib.hid hge
      have HNO := Lib.hid hat.no
      obtain ⟨Wf, hWf, r0, r1, rb⟩ := hT.put l0 l1
      obtain ⟨z0, z1, f0, f1⟩ := hT
      have HWF := Lib.hid hWf
      obtain ⟨s0, s1, s2, s3, s4, s5⟩ := hS.toNodeAt
      clear hat hN hge hWf hS
      go_wp2_with (fail)
      rw [← HWF.out]
      have hv := HV.out
      rw [HGE.out, farL_no HNO.out] at hv
      cases hv
      clear HWF z0 z1 f0 f1
      refine bodyPost_ret (v := .tuple #[.agg #[.int .i64 q0, .int .i64 q1], .bool B]) (by simp [results, Try.results65, go_sem, r0, r1]) rfl ⟨rfl, hb.trans rb⟩
    · obtain ⟨hk, e0, e1, e2, e3, e4, e5⟩ := hat.yes
      have hdl := fun c => downL_lt (c := c) hk
      have HDL := Lib.hid hdl
      obtain ⟨d, hd⟩ : ∃ d, downL L id k2 = d := ⟨_, rfl⟩
      obtain ⟨B2, j0, j1, j2, j3, j4, j5, hat2, cg⟩ := HG.out.at hb d
      have HAT2 := Lib.hid hat2
      have HR := Lib.hid (show (farL L 2 t).getD (0, 0) = (farL L 2 d).getD (k0, k1) by rw [hge, farL_yes hk, e2, hd, e0, e1]; rfl)
      have HLT := Lib.hid (show d.toNat < id.toNat by rw [← hd]; exact HDL.out _)
      have cl := fun W => lower_any id k2 d W hd
      have cf := fun W => sideL_any k0 k1 k2 k3 k4 k5 W
      have hne : b ≠ w1.heap.size := by omega
      have hne' : w1.heap.size ≠ b := by omega
      obtain ⟨Wl, hWl, hS2, ho, hbl⟩ := hS.put6 k0 k1 k2 k3 k4 k5
      have HN2 := Lib.hid (hN.only ho hne)
      have HS2 := Lib.hid hS2
      have HT2 := Lib.hid (hT.only ho (by show ¬ w.heap.size = w1.heap.size; omega))
      have hbL := hb.trans (hbl.mono (Nat.le_of_lt hsz))
      obtain ⟨c0, c1, c2, c3, c4, c5⟩ := hN
      obtain ⟨⟨s0, s1, s2, s3, s4, s5⟩, g0, g1, g2, g3, g4, g5⟩ := hS
      have HWL := Lib.hid hWl
      clear hk e0 e1 e2 e3 e4 e5 hd hat2 hat hge hS2 ho hbl hWl hdl hT
      go_upto_region 6 with (fail)
      rw [← HWL.out]
      clear c0 c1 c2 c3 c4 c5 s0 s1 s2 s3 s4 s5 g0 g1 g2 g3 g4 g5
      obtain ⟨c0, c1, c2, c3, c4, c5⟩ := HN2.out
      go_wp2_with (first
        | (go_at_call 67; ((with_reducible refine (cf _).mono ?_); clear cf; rintro e w2 ⟨rfl, hb2⟩; obtain ⟨d0, d1, d2, d3, d4, d5⟩ := HN2.out.keep hb2; clear c0 c1 c2 c3 c4 c5; have hbM := hbL.trans (hb2.mono hbL.size)))
        | (go_at_call 57; ((with_reducible refine (cl _).mono ?_); clear cl; rintro e w3 ⟨rfl, rfl⟩))
        | (go_at_call 17; ((with_reducible refine (cg _ (hbM.alloc hbM.size _)).mono ?_); clear cg; rintro e w4 ⟨rfl, hb4⟩; have s4 := (Six.new w2 k0 k1 k2 k3 k4 k5 _).keep hb4; obtain ⟨Wf, hWf, hNf, rb⟩ := s4.put j0 j1 j2 j3 j4 j5; have HS := Lib.hid (And.intro hNf rb); clear hNf rb; have HS4 := Lib.hid (((HS2.out.keep hb2).past _).keep hb4); have HT4 := Lib.hid (((HT2.out.keep hb2).past _).keep hb4); have hl4 := (HS2.out.keep hb2).lt; have ht4 := (HT2.out.keep hb2).lt; obtain ⟨⟨z0, z1, z2, z3, z4, z5⟩, f0, f1, f2, f3, f4, f5⟩ := s4; have HWF := Lib.hid hWf; clear hWf)))
      go_roundw
      case rel =>
        rw [← HWF.out]
        exact ⟨d, _, B2, j0, j1, j2, j3, j4, j5, k0, k1, k2, k3, k4, k5, rfl, rfl, rfl, hl4, HS.out.1, HAT2.out, HS4.out.under HS.out.2 hl4, HT4.out.under HS.out.2 ht4, HR.out, round_below hbM hb4 HS.out.2⟩
      case measure => exact HLT.out

set_option maxRecDepth 100000 in
set_option maxHeartbeats 6400000 in
theorem farR_any {ao : Option Addr} {L : List It} (t : Int) (w : World) (hg : Gets ao L w) (q0 q1 : Int) (is : Bool) (hv : (farL L 3 t).getD (0, 0) = (q0, q1)) (his : (farL L 3 t).isSome = is) :
    Calls Try.prog 65 #[.pointer ao, .int .i64 t, .func (.func 66) #[] #[]] w fun e w' => e = .returned (.tuple #[.agg #[.int .i64 q0, .int .i64 q1], .bool is]) ∧ Below w.heap.size w w' := by
  obtain ⟨B, m0, m1, m2, m3, m4, m5, hat, cg⟩ := hg.at (Below.refl _ _) t
  have ba : ∀ o, Below w.heap.size w (w.alloc o) := fun o => (Below.refl _ _).alloc (Nat.le_refl _) _
  have hBis : B = is := by
    cases B
    · rw [← his, farL_no hat.no]; rfl
    · rw [← his, farL_yes hat.yes.1]; rfl
  subst hBis
  have hst : (farL L 3 t).getD (0, 0) = (farL L 3 t).getD (m0, m1) := by
    cases B
    · have hk := hat.no
      obtain ⟨_, a0, a1, _⟩ := hat
      rw [nv_no hk] at a0 a1
      rw [← a0, ← a1]
    · rw [farL_yes hat.yes.1]; rfl
  have HST := Lib.hid hst
  have HAT := Lib.hid hat
  have HG := Lib.hid hg
  have HV := Lib.hid hv
  clear hat hv his hg hst
  go_enter Try.func65, Try.ntmps65
  go_wp2_with (go_at_call 17; ((with_reducible refine (cg _ (ba _)).mono ?_); clear cg; rintro e w1 ⟨rfl, hb1⟩; have hT1 := (Two.new w 0 0 _).keep hb1; have HT1 := Lib.hid hT1; have hb := (ba _).trans (hb1.mono (ba _).size); have hsz : w.heap.size < w1.heap.size := by have := hb1.size; simp at this; omega))
  have hN1 := Six.new w1 m0 m1 m2 m3 m4 m5 41
  go_loopw [1, 10, 11] (fun tt n ok wr => ∃ (id : Int) (b : Nat) (B' : Bool) (k0 k1 k2 k3 k4 k5 l0 l1 l2 l3 l4 l5 : Int), tt = .int .i64 id ∧ n = .pointer (some ⟨b, 0, none⟩) ∧ ok = .bool B' ∧ w1.heap.size < b ∧ NodeAt wr b k0 k1 k2 k3 k4 k5 ∧ AtN L id B' k0 k1 k2 k3 k4 k5 ∧ Six wr w1.heap.size l0 l1 l2 l3 l4 l5 ∧ Two wr w.heap.size 0 0 ∧ (farL L 3 t).getD (0, 0) = (farL L 3 id).getD (l0, l1) ∧ Below w.heap.size w wr) (fun tt _ _ _ => (intOf tt).toNat)
  case atStart =>
    refine ⟨t, _, B, m0, m1, m2, m3, m4, m5, m0, m1, m2, m3, m4, m5, rfl, rfl, rfl, ?_, (by simpa using (Six.new (w1.alloc (.cells #[.int .i64 m0, .int .i64 m1, .int .i64 m2, .int .i64 m3, .int .i64 m4, .int .i64 m5] 41)) m0 m1 m2 m3 m4 m5 41).toNodeAt), HAT.out, hN1.past _, (HT1.out.past _).past _, HST.out, (hb.alloc hb.size _).alloc (Nat.le_trans hb.size (by simp)) _⟩
    simp
  case round =>
    clear hb HAT HT1 HST hN1 hb1 hT1 ba
    obtain ⟨id, b, B', k0, k1, k2, k3, k4, k5, l0, l1, l2, l3, l4, l5, rfl, rfl, rfl, hlb, hN, hat, hS, hT, hge, hb⟩ := hrel
    cases B'
    · have HGE := Lib.hid hge
      have HNO := Lib.hid hat.no
      obtain ⟨Wf, hWf, r0, r1, rb⟩ := hT.put l0 l1
      obtain ⟨z0, z1, f0, f1⟩ := hT
      have HWF := Lib.hid hWf
      obtain ⟨s0, s1, s2, s3, s4, s5⟩ := hS.toNodeAt
      clear hat hN hge hWf hS
      go_wp2_with (fail)
      rw [← HWF.out]
      have hv := HV.out
      rw [HGE.out, farL_no HNO.out] at hv
      cases hv
      clear HWF z0 z1 f0 f1
      refine bodyPost_ret (v := .tuple #[.agg #[.int .i64 q0, .int .i64 q1], .bool B]) (by simp [results, Try.results65, go_sem, r0, r1]) rfl ⟨rfl, hb.trans rb⟩
    · obtain ⟨hk, e0, e1, e2, e3, e4, e5⟩ := hat.yes
      have hdl := fun c => downL_lt (c := c) hk
      have HDL := Lib.hid hdl
      obtain ⟨d, hd⟩ : ∃ d, downL L id k3 = d := ⟨_, rfl⟩
      obtain ⟨B2, j0, j1, j2, j3, j4, j5, hat2, cg⟩ := HG.out.at hb d
      have HAT2 := Lib.hid hat2
      have HR := Lib.hid (show (farL L 3 t).getD (0, 0) = (farL L 3 d).getD (k0, k1) by rw [hge, farL_yes hk, e3, hd, e0, e1]; rfl)
      have HLT := Lib.hid (show d.toNat < id.toNat by rw [← hd]; exact HDL.out _)
      have cl := fun W => lower_any id k3 d W hd
      have cf := fun W => sideR_any k0 k1 k2 k3 k4 k5 W
      have hne : b ≠ w1.heap.size := by omega
      have hne' : w1.heap.size ≠ b := by omega
      obtain ⟨Wl, hWl, hS2, ho, hbl⟩ := hS.put6 k0 k1 k2 k3 k4 k5
      have HN2 := Lib.hid (hN.only ho hne)
      have HS2 := Lib.hid hS2
      have HT2 := Lib.hid (hT.only ho (by show ¬ w.heap.size = w1.heap.size; omega))
      have hbL := hb.trans (hbl.mono (Nat.le_of_lt hsz))
      obtain ⟨c0, c1, c2, c3, c4, c5⟩ := hN
      obtain ⟨⟨s0, s1, s2, s3, s4, s5⟩, g0, g1, g2, g3, g4, g5⟩ := hS
      have HWL := Lib.hid hWl
      clear hk e0 e1 e2 e3 e4 e5 hd hat2 hat hge hS2 ho hbl hWl hdl hT
      go_upto_region 6 with (fail)
      rw [← HWL.out]
      clear c0 c1 c2 c3 c4 c5 s0 s1 s2 s3 s4 s5 g0 g1 g2 g3 g4 g5
      obtain ⟨c0, c1, c2, c3, c4, c5⟩ := HN2.out
      go_wp2_with (first
        | (go_at_call 66; ((with_reducible refine (cf _).mono ?_); clear cf; rintro e w2 ⟨rfl, hb2⟩; obtain ⟨d0, d1, d2, d3, d4, d5⟩ := HN2.out.keep hb2; clear c0 c1 c2 c3 c4 c5; have hbM := hbL.trans (hb2.mono hbL.size)))
        | (go_at_call 57; ((with_reducible refine (cl _).mono ?_); clear cl; rintro e w3 ⟨rfl, rfl⟩))
        | (go_at_call 17; ((with_reducible refine (cg _ (hbM.alloc hbM.size _)).mono ?_); clear cg; rintro e w4 ⟨rfl, hb4⟩; have s4 := (Six.new w2 k0 k1 k2 k3 k4 k5 _).keep hb4; obtain ⟨Wf, hWf, hNf, rb⟩ := s4.put j0 j1 j2 j3 j4 j5; have HS := Lib.hid (And.intro hNf rb); clear hNf rb; have HS4 := Lib.hid (((HS2.out.keep hb2).past _).keep hb4); have HT4 := Lib.hid (((HT2.out.keep hb2).past _).keep hb4); have hl4 := (HS2.out.keep hb2).lt; have ht4 := (HT2.out.keep hb2).lt; obtain ⟨⟨z0, z1, z2, z3, z4, z5⟩, f0, f1, f2, f3, f4, f5⟩ := s4; have HWF := Lib.hid hWf; clear hWf)))
      go_roundw
      case rel =>
        rw [← HWF.out]
        exact ⟨d, _, B2, j0, j1, j2, j3, j4, j5, k0, k1, k2, k3, k4, k5, rfl, rfl, rfl, hl4, HS.out.1, HAT2.out, HS4.out.under HS.out.2 hl4, HT4.out.under HS.out.2 ht4, HR.out, round_below hbM hb4 HS.out.2⟩
      case measure => exact HLT.out

set_option maxRecDepth 100000 in
set_option maxHeartbeats 1600000 in
theorem lmin_any {ao : Option Addr} {L : List It} (t : Int) (w : World) (hg : Gets ao L w) (q0 q1 : Int) (is : Bool) (hv : (farL L 2 t).getD (0, 0) = (q0, q1)) (his : (farL L 2 t).isSome = is) :
    Calls Try.prog 60 #[.pointer ao, .int .i64 t] w fun e w' => e = .returned (.tuple #[.agg #[.int .i64 q0, .int .i64 q1], .bool is]) ∧ Below w.heap.size w w' := by
  have ba : ∀ o, Below w.heap.size w (w.alloc o) := fun o => (Below.refl _ _).alloc (Nat.le_refl _) _
  have cf := fun W hB => farL_any t W (hg.later hB) q0 q1 is hv his
  clear hg hv his
  go_enter Try.func60, Try.ntmps60
  go_wp2_with (go_at_call 65; ((with_reducible refine (cf _ (ba _)).mono ?_); clear cf; rintro e w1 ⟨rfl, hb1⟩; have hT := (Two.new w 0 0 _).keep hb1; obtain ⟨Wf, hWf, r0, r1, rb⟩ := hT.put q0 q1; obtain ⟨z0, z1, f0, f1⟩ := hT; have hb := (ba _).trans (hb1.mono (ba _).size); clear ba))
  rw [← hWf]
  clear hWf z0 z1 f0 f1
  refine bodyPost_ret (v := .tuple #[.agg #[.int .i64 q0, .int .i64 q1], .bool is]) (by simp [results, Try.results60, go_sem, r0, r1]) rfl ⟨rfl, hb.trans rb⟩

set_option maxRecDepth 100000 in
set_option maxHeartbeats 1600000 in
theorem lmax_any {ao : Option Addr} {L : List It} (t : Int) (w : World) (hg : Gets ao L w) (q0 q1 : Int) (is : Bool) (hv : (farL L 3 t).getD (0, 0) = (q0, q1)) (his : (farL L 3 t).isSome = is) :
    Calls Try.prog 59 #[.pointer ao, .int .i64 t] w fun e w' => e = .returned (.tuple #[.agg #[.int .i64 q0, .int .i64 q1], .bool is]) ∧ Below w.heap.size w w' := by
  have ba : ∀ o, Below w.heap.size w (w.alloc o) := fun o => (Below.refl _ _).alloc (Nat.le_refl _) _
  have cf := fun W hB => farR_any t W (hg.later hB) q0 q1 is hv his
  clear hg hv his
  go_enter Try.func59, Try.ntmps59
  go_wp2_with (go_at_call 65; ((with_reducible refine (cf _ (ba _)).mono ?_); clear cf; rintro e w1 ⟨rfl, hb1⟩; have hT := (Two.new w 0 0 _).keep hb1; obtain ⟨Wf, hWf, r0, r1, rb⟩ := hT.put q0 q1; obtain ⟨z0, z1, f0, f1⟩ := hT; have hb := (ba _).trans (hb1.mono (ba _).size); clear ba))
  rw [← hWf]
  clear hWf z0 z1 f0 f1
  refine bodyPost_ret (v := .tuple #[.agg #[.int .i64 q0, .int .i64 q1], .bool is]) (by simp [results, Try.results59, go_sem, r0, r1]) rfl ⟨rfl, hb.trans rb⟩
end Go.Proofs.Ytbmlpdkbiipcmaa

namespace Go.Proofs.Ytbmlpdkbiipcmaa
open Go.RowKit
set_option linter.all false

section
variable {w0 w : World} {p : Nat} {room st : Int} {L : List It} {t : Int} {l : List Pr}

theorem tget (h : Held w0 w p room st L) (T : Tree L t l) (hs : Srt l) (key v : Int) (is : Bool) (hv : ((findL l key).map (·.2)).getD 0 = v) (his : (findL l key).isSome = is) :
    Calls Try.prog 42 #[.pointer (some ⟨p, 0, none⟩), .int .i64 t, .int .i64 key] w fun e w' => e = .returned (.tuple #[.int .i64 v, .bool is]) ∧ Below w.heap.size w w' :=
  lget_any t key w (Gets.ofArena h.a) v is (by rw [get_tree T key hs]; exact hv) (by rw [get_tree T key hs, Option.isSome_map]; exact his)
theorem tsize (h : Held w0 w p room st L) (T : Tree L t l) (n : Int) (hn : (l.length : Int) = n) :
    Calls Try.prog 61 #[.pointer (some ⟨p, 0, none⟩), .int .i64 t] w fun e w' => e = .returned (.int .i64 n) ∧ Below w.heap.size w w' :=
  size_any t n w (Gets.ofArena h.a) (by rw [T.size.1]; exact hn)
theorem tmin (h : Held w0 w p room st L) (T : Tree L t l) (q0 q1 : Int) (is : Bool) (hv : (l[0]?).getD (0, 0) = (q0, q1)) (his : (l[0]?).isSome = is) :
    Calls Try.prog 60 #[.pointer (some ⟨p, 0, none⟩), .int .i64 t] w fun e w' => e = .returned (.tuple #[.agg #[.int .i64 q0, .int .i64 q1], .bool is]) ∧ Below w.heap.size w w' :=
  lmin_any t w (Gets.ofArena h.a) q0 q1 is (by rw [far_left T]; exact hv) (by rw [far_left T]; exact his)
theorem tmax (h : Held w0 w p room st L) (T : Tree L t l) (q0 q1 : Int) (is : Bool) (hv : (l[l.length - 1]?).getD (0, 0) = (q0, q1)) (his : (l[l.length - 1]?).isSome = is) :
    Calls Try.prog 59 #[.pointer (some ⟨p, 0, none⟩), .int .i64 t] w fun e w' => e = .returned (.tuple #[.agg #[.int .i64 q0, .int .i64 q1], .bool is]) ∧ Below w.heap.size w w' :=
  lmax_any t w (Gets.ofArena h.a) q0 q1 is (by rw [far_right T]; exact hv) (by rw [far_right T]; exact his)
/-- The pair at a place. -/
def atL (l : List Pr) (i : Int) : Option Pr := if i < 0 then none else l[i.toNat]?
theorem tnth (h : Held w0 w p room st L) (T : Tree L t l) (hl : l.length ≤ 1000) (i q0 q1 : Int) (is : Bool) (hv : (atL l i).getD (0, 0) = (q0, q1)) (his : (atL l i).isSome = is) :
    Calls Try.prog 62 #[.pointer (some ⟨p, 0, none⟩), .int .i64 t, .int .i64 i] w fun e w' => e = .returned (.tuple #[.agg #[.int .i64 q0, .int .i64 q1], .bool is]) ∧ Below w.heap.size w w' :=
  lnth_any t i w (Gets.ofArena h.a) q0 q1 is (by rw [nthL_tree T (by omega)]; exact hv) (by rw [nthL_tree T (by omega)]; exact his)
end

/-! ### osierref1.Find -/

def FindSays (w : World) (l : List Pr) (key : Int) (e : Ending) (w' : World) : Prop :=
  ∃ k : Int, e = .returned (.int .i64 k) ∧ ((k = -1 ∧ findL l key = none) ∨ (∃ (i : Nat) (q : Pr), k = i ∧ l[i]? = some q ∧ q.1 = key ∧ findL l key = some q)) ∧ Below w.heap.size w w'

theorem findL_at {l : List Pr} {n : Nat} {q : Pr} (hq : l[n]? = some q) (hn : ∀ x ∈ l.take n, x.1 ≠ q.1) : findL l q.1 = some q := by
  have e := split_at hq
  have hn : findL (l.take n) q.1 = none := findL_none hn
  conv => lhs; rw [e]
  unfold findL at hn ⊢
  rw [List.find?_append, hn, Option.none_or, List.find?_cons_of_pos (by simp)]

set_option maxRecDepth 100000 in
set_option maxHeartbeats 6400000 in
theorem find_any (a : Option Addr) (cap : Nat) (l : List Pr) (key : Int) (w : World) (h : Prs w a cap l) :
    Calls Try.prog 23 #[.slice a l.length cap, .int .i64 key] w (FindSays w l key) := by
  have HH := Lib.hid h
  have hc1 := h.1
  have hc2 := h.2.1
  clear h
  unfold maxLen at hc2
  go_enter Try.func23, Try.ntmps23
  go_wp2_with (fail)
  go_loopw [9] (fun i wr => ∃ n : Nat, n ≤ l.length ∧ i = .int .i64 n ∧ (∀ x ∈ l.take n, x.1 ≠ key) ∧ Below w.heap.size w wr) (fun i _ => l.length - (intOf i).toNat)
  case atStart => exact ⟨0, Nat.zero_le _, rfl, by simp, Below.refl _ _⟩
  case round =>
    obtain ⟨n, hn, rfl, hno, hb⟩ := hrel
    have HNO := Lib.hid hno
    clear hno
    by_cases hlt : n < l.length
    · obtain ⟨q, hq⟩ : ∃ q, l[n]? = some q := ⟨_, List.getElem?_eq_getElem hlt⟩
      obtain ⟨b, o, rfl, c0, c1⟩ := (HH.out.below hb).2.2 n q hq
      obtain ⟨x0, x1⟩ := q
      dsimp only at c0 c1
      have HQ := Lib.hid hq
      have hb1 := hb.alloc hb.size (.cells #[.int .i64 x0, .int .i64 x1] 24)
      clear hq
      by_cases hk : x0 = key
      · subst hk
        go_wp2_with (fail)
        go_ret
        exact ⟨_, rfl, .inr ⟨n, _, rfl, HQ.out, rfl, findL_at HQ.out HNO.out⟩, hb1⟩
      · have hk' : (x0 == key) = false := by simpa using hk
        have HK := Lib.hid hk
        clear hk
        go_wp2_with (fail)
        go_roundw
        case rel =>
          refine ⟨n + 1, by omega, by go_num, fun x hx => ?_, hb1⟩
          rw [List.take_succ_eq_append_getElem hlt, List.mem_append] at hx
          rcases hx with hx | hx
          · exact HNO.out x hx
          · have : x = (x0, x1) := by
              rw [List.mem_singleton.1 hx]
              have := (List.getElem?_eq_some_iff.1 HQ.out).2
              exact this
            rw [this]; exact HK.out
        case measure => simp [intOf]; omega
    · obtain rfl : n = l.length := by omega
      go_wp2_with (fail)
      go_ret
      exact ⟨_, rfl, .inl ⟨rfl, findL_none (fun x hx => HNO.out x (by rw [List.take_of_length_le (Nat.le_refl _)]; exact hx))⟩, hb⟩

/-! ### osierref1.MayPairs -/

theorem wrapU64 (a : Int) : IntKind.u64.wrap a = a % 18446744073709551616 := by first | rfl | simp [IntKind.wrap]
/-- int(uint64(a) % uint64(d)). -/
theorem umod (a d : Int) (h : 0 < d) (h2 : d ≤ 9223372036854775807) : ∃ m : Nat, (m : Int) < d ∧ wrap64 ((IntKind.u64.wrap a).tmod d) = m := by
  have h0 : 0 ≤ a % 18446744073709551616 := Int.emod_nonneg _ (by decide)
  have h1 := Int.emod_nonneg (a % 18446744073709551616) (show d ≠ 0 by omega)
  have h3 := Int.emod_lt_of_pos (a % 18446744073709551616) h
  refine ⟨((a % 18446744073709551616) % d).toNat, by omega, ?_⟩
  rw [wrapU64, Int.tmod_eq_emod_of_nonneg h0]
  unfold wrap64
  omega
end Go.Proofs.Ytbmlpdkbiipcmaa
