/- A treap of pairs in an arena; contract of osierlaw3.Laid. -/
import Derived.Test.YtmbeaefgakfbnaaNHigh
namespace Go.Proofs.Ytmbeaefgakfbnaa
open Go.RowKit
set_option linter.all false

theorem itemAt_app {L : List It} {id : Int} {x : It} (h : itemAt L id = some x) (M : List It) : itemAt (L ++ M) id = some x := by
  unfold itemAt at h ⊢
  split at h
  · cases h
  · rename_i hc
    rw [if_neg hc, List.getElem?_append_left (List.getElem?_eq_some_iff.1 h).1]
    exact h
theorem itemAt_new (L : List It) (x : It) (id : Int) (h : id = (L.length : Int) + 1) : itemAt (L ++ [x]) id = some x := by
  unfold itemAt
  rw [if_neg (by omega), show (id - 1).toNat = L.length by omega]
  simp
theorem itemAt_range {L : List It} {id : Int} {x : It} (h : itemAt L id = some x) : 1 ≤ id ∧ id ≤ L.length := by
  obtain ⟨i, rfl, _, h⟩ := itemAt_some h
  omega

/-- What an item says as a node. -/
theorem node_says {L : List It} {t k v x y s h : Int} (e : itemAt L t = some (1, [k, v, x, y, s, h])) :
    kindL L t = 1 ∧ valL L t 0 = k ∧ valL L t 1 = v ∧ valL L t 2 = x ∧ valL L t 3 = y ∧ valL L t 4 = s ∧ valL L t 5 = h := by
  unfold kindL valL
  rw [e]
  exact ⟨rfl, rfl, rfl, rfl, rfl, rfl, rfl⟩
theorem node_sizes {L : List It} {t k v x y s h : Int} (e : itemAt L t = some (1, [k, v, x, y, s, h])) : sizeL L t = s ∧ highL L t = h ∧ HungOk L t := by
  have hr := itemAt_range e
  obtain ⟨h0, _, _, _, _, h4, h5⟩ := node_says e
  unfold sizeL highL
  rw [if_neg (by omega), if_neg (by omega)]
  exact ⟨h4, h5, .inr h0⟩

/-- The treap of some pairs lies in an arena. -/
inductive Tree (L : List It) : Int → List Pr → Prop
  | nil : Tree L 0 []
  | node (t x y : Int) (l : List Pr) (i : Nat) (q : Pr) : topL l = i → l[i]? = some q → itemAt L t = some (1, [q.1, q.2, x, y, (l.length : Int), (hi l : Int)]) → x < t → y < t → 0 ≤ x → 0 ≤ y → Tree L x (l.take i) → Tree L y (l.drop (i + 1)) → Tree L t l

theorem Tree.app {L : List It} {t : Int} {l : List Pr} (h : Tree L t l) (M : List It) : Tree (L ++ M) t l := by
  induction h with
  | nil => exact .nil
  | node t x y l i q h1 h2 h3 h4 h5 h6 h7 _ _ ih1 ih2 => exact .node t x y l i q h1 h2 (itemAt_app h3 M) h4 h5 h6 h7 ih1 ih2
theorem Tree.hung {L : List It} {t : Int} {l : List Pr} (h : Tree L t l) (hl : l.length ≤ 1000) : Hung L t l.length (hi l) ∧ 0 ≤ t ∧ t ≤ L.length := by
  have hh := hi_le _ l (Nat.le_refl _)
  cases h with
  | nil => exact ⟨by rw [hi_neg [] (by rw [topL_nil]; omega)]; exact Hung.zero L, Int.le_refl _, by omega⟩
  | node _ x y _ i q h1 h2 h3 =>
    have hr := itemAt_range h3
    obtain ⟨a, b, c⟩ := node_sizes h3
    exact ⟨⟨c, a, b, by omega, by omega, by omega, by omega⟩, by omega, hr.2⟩

/-- The node of a number says the size and the height of what hangs on it. -/
def GoodAt (L : List It) (id : Int) : Prop :=
  ∃ k v x y s h : Int, itemAt L id = some (1, [k, v, x, y, s, h]) ∧ 0 ≤ x ∧ x < id ∧ 0 ≤ y ∧ y < id ∧ s = sizeL L x + sizeL L y + 1 ∧ h = max (highL L x) (highL L y) + 1 ∧ 1 ≤ s ∧ s ≤ 1000 ∧ 1 ≤ h ∧ h ≤ 1000
def Good (L : List It) : Prop := ∀ id : Int, 1 ≤ id → id ≤ L.length → GoodAt L id

theorem size_app {L : List It} {x : Int} (h : x ≤ L.length) (M : List It) : sizeL (L ++ M) x = sizeL L x ∧ highL (L ++ M) x = highL L x := by
  unfold sizeL highL
  by_cases h0 : x = 0
  · rw [if_pos h0, if_pos h0, if_pos h0, if_pos h0]; exact ⟨rfl, rfl⟩
  · rw [if_neg h0, if_neg h0, if_neg h0, if_neg h0]
    have e : itemAt (L ++ M) x = itemAt L x := by
      unfold itemAt
      by_cases h1 : x < 1
      · rw [if_pos h1, if_pos h1]
      · rw [if_neg h1, if_neg h1, List.getElem?_append_left (by omega)]
    unfold valL
    rw [e]
    exact ⟨rfl, rfl⟩
theorem Good.nil : Good [] := fun id h1 h2 => by simp at h2; omega
theorem Good.snoc {L : List It} (h : Good L) (k v x y s hh : Int) (hx : 0 ≤ x ∧ x ≤ L.length) (hy : 0 ≤ y ∧ y ≤ L.length) (hs : s = sizeL L x + sizeL L y + 1) (hh' : hh = max (highL L x) (highL L y) + 1) (b : 1 ≤ s ∧ s ≤ 1000 ∧ 1 ≤ hh ∧ hh ≤ 1000) :
    Good (L ++ [(1, [k, v, x, y, s, hh])]) := by
  intro id h1 h2
  by_cases hid : id ≤ L.length
  · obtain ⟨k', v', x', y', s', h', e, a1, a2, a3, a4, a5, a6, a7⟩ := h id h1 hid
    refine ⟨k', v', x', y', s', h', itemAt_app e _, a1, a2, a3, a4, ?_, ?_, a7⟩
    · rw [(size_app (by omega) _).1, (size_app (by omega) _).1]; exact a5
    · rw [(size_app (by omega) _).2, (size_app (by omega) _).2]; exact a6
  · rw [List.length_append] at h2
    have h2 : id ≤ (L.length : Int) + 1 := by simpa using h2
    refine ⟨k, v, x, y, s, hh, itemAt_new L _ id (by omega), hx.1, by omega, hy.1, by omega, ?_, ?_, b⟩
    · rw [(size_app hx.2 _).1, (size_app hy.2 _).1]; exact hs
    · rw [(size_app hx.2 _).2, (size_app hy.2 _).2]; exact hh'

/-! ### Laid -/

/-- What Laid tells. -/
def LaidSays (w1 : World) (p : Nat) (room st : Int) (L : List It) (l : List Pr) (e : Ending) (w' : World) : Prop :=
  ∃ t L', e = .returned (.tuple #[.int .i64 t, .bool true]) ∧ Held w1 w' p room st (L ++ L') ∧ L'.length = l.length ∧ Tree (L ++ L') t l ∧ Good (L ++ L')

set_option maxRecDepth 100000 in
set_option maxHeartbeats 6400000 in
theorem laid_any (w1 : World) (p : Nat) (room st : Int) (N : Nat) : ∀ (a : Option Addr) (cap : Nat) (l : List Pr) (w : World) (L : List It), l.length ≤ N → Prs w1 a cap l → Held w1 w p room st L → Good L → ((L.length + l.length : Nat) : Int) ≤ room → l.length ≤ 1000 →
    Calls Try.prog 9 #[.pointer (some ⟨p, 0, none⟩), .slice a l.length cap] w (LaidSays w1 p room st L l) := by
  have neg : ∀ (a : Option Addr) (cap : Nat) (l : List Pr) (w : World) (L : List It), Prs w1 a cap l → Held w1 w p room st L → Good L → topL l < 0 →
      Calls Try.prog 9 #[.pointer (some ⟨p, 0, none⟩), .slice a l.length cap] w (LaidSays w1 p room st L l) := by
    intro a cap l w L hP hH hG ht
    obtain rfl := topL_pos l ht
    have ct := top_any a cap [] w (hP.below hH.b)
    rw [topL_nil, List.length_nil] at ct
    rw [List.length_nil]
    have HH := Lib.hid hH
    clear hH hP ht
    go_enter Try.func9, Try.ntmps9
    go_wp2_with (go_at_call 22; ((with_reducible refine ct.mono ?_); clear ct; rintro e w2 ⟨rfl, hb⟩))
    go_ret2
    exact ⟨0, [], rfl, by rw [List.append_nil]; exact HH.out.below hb, rfl, .nil, by rw [List.append_nil]; exact hG⟩
  induction N with
  | zero =>
    intro a cap l w L hN hP hH hG hr hl
    exact neg a cap l w L hP hH hG (by have := topL_lt l; omega)
  | succ N ih =>
    intro a cap l w L hN hP hH hG hr hl
    by_cases ht : topL l < 0
    · exact neg a cap l w L hP hH hG ht
    · have hB := topL_lt l
      obtain ⟨i, hi'⟩ : ∃ i : Nat, topL l = i := ⟨(topL l).toNat, by omega⟩
      have ct := top_any a cap l w (hP.below hH.b)
      rw [hi'] at ct
      have hil : i < l.length := by omega
      obtain ⟨b, o, rfl⟩ := hP.some i hil
      obtain ⟨e1, P1⟩ := hP.take i hil
      obtain ⟨aD, e2, P2, hD⟩ := hP.drop i hil
      have c1 := fun W (hW : Held w1 W p room st L) => ih _ _ (l.take i) W L (by omega) P1 hW hG (by omega) (by omega)
      have c2 := fun W M (hW : Held w1 W p room st M) (hg : Good M) (hM : M.length = L.length + i) => ih _ _ (l.drop (i + 1)) W M (by omega) P2 hW hg (by omega) (by omega)
      obtain ⟨q, hq⟩ : ∃ q, l[i]? = some q := ⟨_, List.getElem?_eq_getElem hil⟩
      obtain ⟨b', o', e', hc0, hc1⟩ := hP.2.2 i q hq
      cases e'
      obtain ⟨k, v⟩ := q
      dsimp only at hc0 hc1
      have HQ := Lib.hid hq
      have HT := Lib.hid hi'
      have HG := Lib.hid hG
      have HE1 := Lib.hid e1
      have HE2 := Lib.hid e2
      have cfin : ∀ W (M : List It) (x y : Int) (L1 L2 : List It), Held w1 W p room st (L ++ L1 ++ L2) → L1.length = i → L2.length = l.length - (i + 1) → Tree (L ++ L1) x (l.take i) → Tree (L ++ L1 ++ L2) y (l.drop (i + 1)) → Good (L ++ L1 ++ L2) →
          Calls Try.prog 23 #[.pointer (some ⟨p, 0, none⟩), .agg #[.int .i64 k, .int .i64 v], .int .i64 x, .int .i64 y] W fun e w' =>
            ∃ t L', e = .returned (.tuple #[.int .i64 t, .int .i64 0]) ∧ Held w1 w' p room st (L ++ L') ∧ L'.length = l.length ∧ Tree (L ++ L') t l ∧ Good (L ++ L') := by
        intro W M x y L1 L2 hW n1 n2 t1 t2 hg
        have t1' := t1.app L2
        have hl1 := hi_le _ (l.take i) (Nat.le_refl _)
        have hl2 := hi_le _ (l.drop (i + 1)) (Nat.le_refl _)
        obtain ⟨g1, x0, x1⟩ := t1'.hung (by omega)
        obtain ⟨g2, y0, y1⟩ := t2.hung (by omega)
        have hh := hi_at l i HT.out
        have elen : (L ++ L1 ++ L2).length = L.length + i + (l.length - (i + 1)) := by rw [List.length_append, List.length_append, n1, n2]
        refine (nmake_held hW k v x y _ _ _ _ ((L ++ L1 ++ L2).length + 1) (l.length : Int) (hi l : Int) _ g1 g2 (by omega) ⟨by omega, by omega⟩ ⟨by omega, by omega⟩ ⟨by omega, by omega⟩ ⟨by omega, by omega⟩ rfl (by omega) (by rw [hh]; omega) rfl).mono ?_
        rintro e w' ⟨rfl, hH'⟩
        have eapp : L ++ L1 ++ L2 ++ [(1, [k, v, x, y, (l.length : Int), (hi l : Int)])] = L ++ (L1 ++ L2 ++ [(1, [k, v, x, y, (l.length : Int), (hi l : Int)])]) := by simp
        refine ⟨_, L1 ++ L2 ++ [(1, [k, v, x, y, (l.length : Int), (hi l : Int)])], rfl, ?_, ?_, ?_, ?_⟩
        · rw [← eapp]; exact hH'
        · rw [List.length_append, List.length_append, n1, n2]; simp; omega
        · rw [← eapp]
          exact .node _ x y l i (k, v) HT.out HQ.out (itemAt_new _ _ _ rfl) (by omega) (by omega) x0 y0 (t1'.app _) (t2.app _)
        · rw [← eapp]
          exact hg.snoc k v x y _ _ ⟨x0, x1⟩ ⟨y0, y1⟩ (by rw [g1.size, g2.size]; omega) (by rw [g1.high, g2.high, hh]; omega) ⟨by omega, by omega, by omega, by omega⟩
      clear hB hi' ht
      rw [e1] at c1
      rw [e2] at c2
      have hcap := hP.1
      have hcapm := hP.2.1
      unfold maxLen at hcapm
      have hmn : ¬ (i : Int) < 0 := by omega
      have hm0 : (0 : Int) ≤ (i : Int) := by omega
      have hii : (i : Int) ≤ (l.length : Int) := by omega
      have hii2 : (i : Int) + 1 ≤ (l.length : Int) := by omega
      have hii3 : (i : Int) < (l.length : Int) := by omega
      have hw : wrap64 ((i : Int) + 1) = (i : Int) + 1 := by unfold wrap64; omega
      have h01 : (0 : Int) ≤ (i : Int) + 1 := by omega
      have hic : (i : Int) ≤ (cap : Int) := by omega
      have hic1 : (i : Int) + 1 ≤ (cap : Int) := by omega
      have hlc : (l.length : Int) ≤ (cap : Int) := by omega
      have hcap0 : ¬ cap = 0 := by omega
      have HH := Lib.hid hH
      have hw0 := hP
      clear hP P1 P2 ih e1 e2 hq hH hG neg hw0
      rcases hD with ⟨rfl, rfl⟩ | ⟨hcc, rfl⟩
      · have hlen0 : l.length - (i + 1) = 0 := by omega
        rw [Nat.sub_self, hlen0] at c2
        go_enter Try.func9, Try.ntmps9
        go_wp2_with (first
          | (go_at_call 22; ((with_reducible refine ct.mono ?_); clear ct; rintro e w2 ⟨rfl, hb⟩; have h2 := HH.out.below hb; clear hb))
          | (go_at_call 9; ((with_reducible refine (c1 _ h2).mono ?_); clear c1; rintro e w3 ⟨x, L1, rfl, h3, n1, t1, g1⟩; have T1 := Lib.hid t1; clear t1 h2))
          | (go_at_call 9; ((with_reducible refine (c2 _ _ h3 g1 (by rw [List.length_append, n1, HE1.out])).mono ?_); clear c2; rintro e w4 ⟨y, L2, rfl, h4, n2, t2, g2⟩; have T2 := Lib.hid t2; have k0 := h4.old hc0; have k1 := h4.old hc1; clear t2 h3 g1))
          | (go_at_call 23; ((with_reducible refine (cfin _ [] x y L1 L2 h4 (n1.trans HE1.out) (n2.trans HE2.out) T1.out T2.out g2).mono ?_); clear cfin; rintro e w5 ⟨t, L', rfl, h5, n5, t5, g5⟩)))
        go_ret2
        exact ⟨t, L', rfl, h5, n5, t5, g5⟩
      · go_enter Try.func9, Try.ntmps9
        go_wp2_with (first
          | (go_at_call 22; ((with_reducible refine ct.mono ?_); clear ct; rintro e w2 ⟨rfl, hb⟩; have h2 := HH.out.below hb; clear hb))
          | (go_at_call 9; ((with_reducible refine (c1 _ h2).mono ?_); clear c1; rintro e w3 ⟨x, L1, rfl, h3, n1, t1, g1⟩; have T1 := Lib.hid t1; clear t1 h2))
          | (go_at_call 9; ((with_reducible refine (c2 _ _ h3 g1 (by rw [List.length_append, n1, HE1.out])).mono ?_); clear c2; rintro e w4 ⟨y, L2, rfl, h4, n2, t2, g2⟩; have T2 := Lib.hid t2; have k0 := h4.old hc0; have k1 := h4.old hc1; clear t2 h3 g1))
          | (go_at_call 23; ((with_reducible refine (cfin _ [] x y L1 L2 h4 (n1.trans HE1.out) (n2.trans HE2.out) T1.out T2.out g2).mono ?_); clear cfin; rintro e w5 ⟨t, L', rfl, h5, n5, t5, g5⟩)))
        go_ret2
        exact ⟨t, L', rfl, h5, n5, t5, g5⟩
end Go.Proofs.Ytmbeaefgakfbnaa
