/- A treap of pairs in an arena; contract of osierlaw3.Laid. A treap of pairs, parted; what its node says. The plain mathematics of looking into sorted pairs: what the top pair parts. osierlaw3.Laid over an arena some of whose blocks are older than the slice. The plain mathematics of treaps: which pair is on top of sorted pairs; parts, joins, a key more, a key less. -/
import Derived.Test.YtbmlpdkbiipcmaaNHigh
import Derived.Test.YtbmlpdkbiipcmaaNSrt
namespace Go.Proofs.Ytbmlpdkbiipcmaa
open Go.RowKit
set_option linter.all false

theorem itemAt_app {L : List It} {id : Int} {x : It} (h : itemAt L id = some x) (M : List It) : itemAt (L ++ M) id = some x := by
  unfold itemAt at h ⊢
  split at h
  · cases h
  · rename_i hc
    rw [if_neg hc, List.getElem?_append_left (List.getElem?_eq_some_iff.1 h).1]
    exact h
theorem itemAt_new (L : List It) (x : It) (id : Int) (h : id = (L.length : Int) + 1) : itemAt (L ++ [x]) id = some x := by
  unfold itemAt
  rw [if_neg (by omega), show (id - 1).toNat = L.length by omega]
  simp
theorem itemAt_range {L : List It} {id : Int} {x : It} (h : itemAt L id = some x) : 1 ≤ id ∧ id ≤ L.length := by
  obtain ⟨i, rfl, _, h⟩ := itemAt_some h
  omega

/-- What an item says as a node. -/
theorem node_says {L : List It} {t k v x y s h : Int} (e : itemAt L t = some (1, [k, v, x, y, s, h])) :
    kindL L t = 1 ∧ valL L t 0 = k ∧ valL L t 1 = v ∧ valL L t 2 = x ∧ valL L t 3 = y ∧ valL L t 4 = s ∧ valL L t 5 = h := by
  unfold kindL valL
  rw [e]
  exact ⟨rfl, rfl, rfl, rfl, rfl, rfl, rfl⟩
theorem node_sizes {L : List It} {t k v x y s h : Int} (e : itemAt L t = some (1, [k, v, x, y, s, h])) : sizeL L t = s ∧ highL L t = h ∧ HungOk L t := by
  have hr := itemAt_range e
  obtain ⟨h0, _, _, _, _, h4, h5⟩ := node_says e
  unfold sizeL highL
  rw [if_neg (by omega), if_neg (by omega)]
  exact ⟨h4, h5, .inr h0⟩

/-- The treap of some pairs lies in an arena. -/
inductive Tree (L : List It) : Int → List Pr → Prop
  | nil : Tree L 0 []
  | node (t x y : Int) (l : List Pr) (i : Nat) (q : Pr) : topL l = i → l[i]? = some q → itemAt L t = some (1, [q.1, q.2, x, y, (l.length : Int), (hi l : Int)]) → x < t → y < t → 0 ≤ x → 0 ≤ y → Tree L x (l.take i) → Tree L y (l.drop (i + 1)) → Tree L t l

theorem Tree.app {L : List It} {t : Int} {l : List Pr} (h : Tree L t l) (M : List It) : Tree (L ++ M) t l := by
  induction h with
  | nil => exact .nil
  | node t x y l i q h1 h2 h3 h4 h5 h6 h7 _ _ ih1 ih2 => exact .node t x y l i q h1 h2 (itemAt_app h3 M) h4 h5 h6 h7 ih1 ih2
theorem Tree.hung {L : List It} {t : Int} {l : List Pr} (h : Tree L t l) (hl : l.length ≤ 1000) : Hung L t l.length (hi l) ∧ 0 ≤ t ∧ t ≤ L.length := by
  have hh := hi_le _ l (Nat.le_refl _)
  cases h with
  | nil => exact ⟨by rw [hi_neg [] (by rw [topL_nil]; omega)]; exact Hung.zero L, Int.le_refl _, by omega⟩
  | node _ x y _ i q h1 h2 h3 =>
    have hr := itemAt_range h3
    obtain ⟨a, b, c⟩ := node_sizes h3
    exact ⟨⟨c, a, b, by omega, by omega, by omega, by omega⟩, by omega, hr.2⟩

/-- The node of a number says the size and the height of what hangs on it. -/
def GoodAt (L : List It) (id : Int) : Prop :=
  ∃ k v x y s h : Int, itemAt L id = some (1, [k, v, x, y, s, h]) ∧ 0 ≤ x ∧ x < id ∧ 0 ≤ y ∧ y < id ∧ s = sizeL L x + sizeL L y + 1 ∧ h = max (highL L x) (highL L y) + 1 ∧ 1 ≤ s ∧ s ≤ 1000 ∧ 1 ≤ h ∧ h ≤ 1000
def Good (L : List It) : Prop := ∀ id : Int, 1 ≤ id → id ≤ L.length → GoodAt L id

theorem size_app {L : List It} {x : Int} (h : x ≤ L.length) (M : List It) : sizeL (L ++ M) x = sizeL L x ∧ highL (L ++ M) x = highL L x := by
  unfold sizeL highL
  by_cases h0 : x = 0
  · rw [if_pos h0, if_pos h0, if_pos h0, if_pos h0]; exact ⟨rfl, rfl⟩
  · rw [if_neg h0, if_neg h0, if_neg h0, if_neg h0]
    have e : itemAt (L ++ M) x = itemAt L x := by
      unfold itemAt
      by_cases h1 : x < 1
      · rw [if_pos h1, if_pos h1]
      · rw [if_neg h1, if_neg h1, List.getElem?_append_left (by omega)]
    unfold valL
    rw [e]
    exact ⟨rfl, rfl⟩
theorem Good.nil : Good [] := fun id h1 h2 => by simp at h2; omega
theorem Good.snoc {L : List It} (h : Good L) (k v x y s hh : Int) (hx : 0 ≤ x ∧ x ≤ L.length) (hy : 0 ≤ y ∧ y ≤ L.length) (hs : s = sizeL L x + sizeL L y + 1) (hh' : hh = max (highL L x) (highL L y) + 1) (b : 1 ≤ s ∧ s ≤ 1000 ∧ 1 ≤ hh ∧ hh ≤ 1000) :
    Good (L ++ [(1, [k, v, x, y, s, hh])]) := by
  intro id h1 h2
  by_cases hid : id ≤ L.length
  · obtain ⟨k', v', x', y', s', h', e, a1, a2, a3, a4, a5, a6, a7⟩ := h id h1 hid
    refine ⟨k', v', x', y', s', h', itemAt_app e _, a1, a2, a3, a4, ?_, ?_, a7⟩
    · rw [(size_app (by omega) _).1, (size_app (by omega) _).1]; exact a5
    · rw [(size_app (by omega) _).2, (size_app (by omega) _).2]; exact a6
  · rw [List.length_append] at h2
    have h2 : id ≤ (L.length : Int) + 1 := by simpa using h2
    refine ⟨k, v, x, y, s, hh, itemAt_new L _ id (by omega), hx.1, by omega, hy.1, by omega, ?_, ?_, b⟩
    · rw [(size_app hx.2 _).1, (size_app hy.2 _).1]; exact hs
    · rw [(size_app hx.2 _).2, (size_app hy.2 _).2]; exact hh'

/-! ### Laid -/

/-- What Laid tells. -/
def LaidSays (w1 : World) (p : Nat) (room st : Int) (L : List It) (l : List Pr) (e : Ending) (w' : World) : Prop :=
  ∃ t L', e = .returned (.tuple #[.int .i64 t, .bool true]) ∧ Held w1 w' p room st (L ++ L') ∧ L'.length = l.length ∧ Tree (L ++ L') t l ∧ Good (L ++ L')

set_option maxRecDepth 100000 in
set_option maxHeartbeats 6400000 in
theorem laid_any (w1 : World) (p : Nat) (room st : Int) (N : Nat) : ∀ (a : Option Addr) (cap : Nat) (l : List Pr) (w : World) (L : List It), l.length ≤ N → Prs w1 a cap l → Held w1 w p room st L → Good L → ((L.length + l.length : Nat) : Int) ≤ room → l.length ≤ 1000 →
    Calls Try.prog 9 #[.pointer (some ⟨p, 0, none⟩), .slice a l.length cap] w (LaidSays w1 p room st L l) := by
  have neg : ∀ (a : Option Addr) (cap : Nat) (l : List Pr) (w : World) (L : List It), Prs w1 a cap l → Held w1 w p room st L → Good L → topL l < 0 →
      Calls Try.prog 9 #[.pointer (some ⟨p, 0, none⟩), .slice a l.length cap] w (LaidSays w1 p room st L l) := by
    intro a cap l w L hP hH hG ht
    obtain rfl := topL_pos l ht
    have ct := top_any a cap [] w (hP.below hH.b)
    rw [topL_nil, List.length_nil] at ct
    rw [List.length_nil]
    have HH := Lib.hid hH
    clear hH hP ht
    go_enter Try.func9, Try.ntmps9
    go_wp2_with (go_at_call 16; ((with_reducible refine ct.mono ?_); clear ct; rintro e w2 ⟨rfl, hb⟩))
    go_ret2
    exact ⟨0, [], rfl, by rw [List.append_nil]; exact HH.out.below hb, rfl, .nil, by rw [List.append_nil]; exact hG⟩
  induction N with
  | zero =>
    intro a cap l w L hN hP hH hG hr hl
    exact neg a cap l w L hP hH hG (by have := topL_lt l; omega)
  | succ N ih =>
    intro a cap l w L hN hP hH hG hr hl
    by_cases ht : topL l < 0
    · exact neg a cap l w L hP hH hG ht
    · have hB := topL_lt l
      obtain ⟨i, hi'⟩ : ∃ i : Nat, topL l = i := ⟨(topL l).toNat, by omega⟩
      have ct := top_any a cap l w (hP.below hH.b)
      rw [hi'] at ct
      have hil : i < l.length := by omega
      obtain ⟨b, o, rfl⟩ := hP.some i hil
      obtain ⟨e1, P1⟩ := hP.take i hil
      obtain ⟨aD, e2, P2, hD⟩ := hP.drop i hil
      have c1 := fun W (hW : Held w1 W p room st L) => ih _ _ (l.take i) W L (by omega) P1 hW hG (by omega) (by omega)
      have c2 := fun W M (hW : Held w1 W p room st M) (hg : Good M) (hM : M.length = L.length + i) => ih _ _ (l.drop (i + 1)) W M (by omega) P2 hW hg (by omega) (by omega)
      obtain ⟨q, hq⟩ : ∃ q, l[i]? = some q := ⟨_, List.getElem?_eq_getElem hil⟩
      obtain ⟨b', o', e', hc0, hc1⟩ := hP.2.2 i q hq
      cases e'
      obtain ⟨k, v⟩ := q
      dsimp only at hc0 hc1
      have HQ := Lib.hid hq
      have HT := Lib.hid hi'
      have HG := Lib.hid hG
      have HE1 := Lib.hid e1
      have HE2 := Lib.hid e2
      have cfin : ∀ W (M : List It) (x y : Int) (L1 L2 : List It), Held w1 W p room st (L ++ L1 ++ L2) → L1.length = i → L2.length = l.length - (i + 1) → Tree (L ++ L1) x (l.take i) → Tree (L ++ L1 ++ L2) y (l.drop (i + 1)) → Good (L ++ L1 ++ L2) →
          Calls Try.prog 14 #[.pointer (some ⟨p, 0, none⟩), .agg #[.int .i64 k, .int .i64 v], .int .i64 x, .int .i64 y] W fun e w' =>
            ∃ t L', e = .returned (.tuple #[.int .i64 t, .int .i64 0]) ∧ Held w1 w' p room st (L ++ L') ∧ L'.length = l.length ∧ Tree (L ++ L') t l ∧ Good (L ++ L') := by
        intro W M x y L1 L2 hW n1 n2 t1 t2 hg
        have t1' := t1.app L2
        have hl1 := hi_le _ (l.take i) (Nat.le_refl _)
        have hl2 := hi_le _ (l.drop (i + 1)) (Nat.le_refl _)
        obtain ⟨g1, x0, x1⟩ := t1'.hung (by omega)
        obtain ⟨g2, y0, y1⟩ := t2.hung (by omega)
        have hh := hi_at l i HT.out
        have elen : (L ++ L1 ++ L2).length = L.length + i + (l.length - (i + 1)) := by rw [List.length_append, List.length_append, n1, n2]
        refine (nmake_held hW k v x y _ _ _ _ ((L ++ L1 ++ L2).length + 1) (l.length : Int) (hi l : Int) _ g1 g2 (by omega) ⟨by omega, by omega⟩ ⟨by omega, by omega⟩ ⟨by omega, by omega⟩ ⟨by omega, by omega⟩ rfl (by omega) (by rw [hh]; omega) rfl).mono ?_
        rintro e w' ⟨rfl, hH'⟩
        have eapp : L ++ L1 ++ L2 ++ [(1, [k, v, x, y, (l.length : Int), (hi l : Int)])] = L ++ (L1 ++ L2 ++ [(1, [k, v, x, y, (l.length : Int), (hi l : Int)])]) := by simp
        refine ⟨_, L1 ++ L2 ++ [(1, [k, v, x, y, (l.length : Int), (hi l : Int)])], rfl, ?_, ?_, ?_, ?_⟩
        · rw [← eapp]; exact hH'
        · rw [List.length_append, List.length_append, n1, n2]; simp; omega
        · rw [← eapp]
          exact .node _ x y l i (k, v) HT.out HQ.out (itemAt_new _ _ _ rfl) (by omega) (by omega) x0 y0 (t1'.app _) (t2.app _)
        · rw [← eapp]
          exact hg.snoc k v x y _ _ ⟨x0, x1⟩ ⟨y0, y1⟩ (by rw [g1.size, g2.size]; omega) (by rw [g1.high, g2.high, hh]; omega) ⟨by omega, by omega, by omega, by omega⟩
      clear hB hi' ht
      rw [e1] at c1
      rw [e2] at c2
      have hcap := hP.1
      have hcapm := hP.2.1
      unfold maxLen at hcapm
      have hmn : ¬ (i : Int) < 0 := by omega
      have hm0 : (0 : Int) ≤ (i : Int) := by omega
      have hii : (i : Int) ≤ (l.length : Int) := by omega
      have hii2 : (i : Int) + 1 ≤ (l.length : Int) := by omega
      have hii3 : (i : Int) < (l.length : Int) := by omega
      have hw : wrap64 ((i : Int) + 1) = (i : Int) + 1 := by unfold wrap64; omega
      have h01 : (0 : Int) ≤ (i : Int) + 1 := by omega
      have hic : (i : Int) ≤ (cap : Int) := by omega
      have hic1 : (i : Int) + 1 ≤ (cap : Int) := by omega
      have hlc : (l.length : Int) ≤ (cap : Int) := by omega
      have hcap0 : ¬ cap = 0 := by omega
      have HH := Lib.hid hH
      have hw0 := hP
      clear hP P1 P2 ih e1 e2 hq hH hG neg hw0
      rcases hD with ⟨rfl, rfl⟩ | ⟨hcc, rfl⟩
      · have hlen0 : l.length - (i + 1) = 0 := by omega
        rw [Nat.sub_self, hlen0] at c2
        go_enter Try.func9, Try.ntmps9
        go_wp2_with (first
          | (go_at_call 16; ((with_reducible refine ct.mono ?_); clear ct; rintro e w2 ⟨rfl, hb⟩; have h2 := HH.out.below hb; clear hb))
          | (go_at_call 9; ((with_reducible refine (c1 _ h2).mono ?_); clear c1; rintro e w3 ⟨x, L1, rfl, h3, n1, t1, g1⟩; have T1 := Lib.hid t1; clear t1 h2))
          | (go_at_call 9; ((with_reducible refine (c2 _ _ h3 g1 (by rw [List.length_append, n1, HE1.out])).mono ?_); clear c2; rintro e w4 ⟨y, L2, rfl, h4, n2, t2, g2⟩; have T2 := Lib.hid t2; have k0 := h4.old hc0; have k1 := h4.old hc1; clear t2 h3 g1))
          | (go_at_call 14; ((with_reducible refine (cfin _ [] x y L1 L2 h4 (n1.trans HE1.out) (n2.trans HE2.out) T1.out T2.out g2).mono ?_); clear cfin; rintro e w5 ⟨t, L', rfl, h5, n5, t5, g5⟩)))
        go_ret2
        exact ⟨t, L', rfl, h5, n5, t5, g5⟩
      · go_enter Try.func9, Try.ntmps9
        go_wp2_with (first
          | (go_at_call 16; ((with_reducible refine ct.mono ?_); clear ct; rintro e w2 ⟨rfl, hb⟩; have h2 := HH.out.below hb; clear hb))
          | (go_at_call 9; ((with_reducible refine (c1 _ h2).mono ?_); clear c1; rintro e w3 ⟨x, L1, rfl, h3, n1, t1, g1⟩; have T1 := Lib.hid t1; clear t1 h2))
          | (go_at_call 9; ((with_reducible refine (c2 _ _ h3 g1 (by rw [List.length_append, n1, HE1.out])).mono ?_); clear c2; rintro e w4 ⟨y, L2, rfl, h4, n2, t2, g2⟩; have T2 := Lib.hid t2; have k0 := h4.old hc0; have k1 := h4.old hc1; clear t2 h3 g1))
          | (go_at_call 14; ((with_reducible refine (cfin _ [] x y L1 L2 h4 (n1.trans HE1.out) (n2.trans HE2.out) T1.out T2.out g2).mono ?_); clear cfin; rintro e w5 ⟨t, L', rfl, h5, n5, t5, g5⟩)))
        go_ret2
        exact ⟨t, L', rfl, h5, n5, t5, g5⟩
end Go.Proofs.Ytbmlpdkbiipcmaa

namespace Go.Proofs.Ytbmlpdkbiipcmaa
open Go.RowKit
set_option linter.all false

/-- A treap of some pairs is nothing, or a node with its two halves. -/
theorem Tree.parts {L : List It} {t : Int} {l : List Pr} (h : Tree L t l) : (t = 0 ∧ l = []) ∨
    ∃ (i : Nat) (q : Pr) (x y : Int), topL l = i ∧ l[i]? = some q ∧ itemAt L t = some (1, [q.1, q.2, x, y, (l.length : Int), (hi l : Int)]) ∧ x < t ∧ y < t ∧ 0 ≤ x ∧ 0 ≤ y ∧ Tree L x (l.take i) ∧ Tree L y (l.drop (i + 1)) := by
  cases h with
  | nil => exact .inl ⟨rfl, rfl⟩
  | node _ x y _ i q h1 h2 h3 h4 h5 h6 h7 h8 h9 => exact .inr ⟨i, q, x, y, h1, h2, h3, h4, h5, h6, h7, h8, h9⟩

/-- What stands at a treap's number: nothing, or a node that says its pair, its halves, its size and height. -/
theorem Tree.says {L : List It} {t : Int} {l : List Pr} (h : Tree L t l) :
    (t = 0 ∧ l = [] ∧ kindL L t = 0) ∨
    ∃ (i : Nat) (q : Pr) (x y : Int), 1 ≤ t ∧ i < l.length ∧ l[i]? = some q ∧ kindL L t = 1 ∧ valL L t 0 = q.1 ∧ valL L t 1 = q.2 ∧ valL L t 2 = x ∧ valL L t 3 = y ∧ valL L t 4 = (l.length : Int) ∧ valL L t 5 = (hi l : Int) ∧
      x < t ∧ y < t ∧ 0 ≤ x ∧ 0 ≤ y ∧ Tree L x (l.take i) ∧ Tree L y (l.drop (i + 1)) := by
  rcases h.parts with ⟨rfl, rfl⟩ | ⟨i, q, x, y, h1, h2, h3, h4, h5, h6, h7, h8, h9⟩
  · exact .inl ⟨rfl, rfl, kindL_zero L 0 (by omega)⟩
  · obtain ⟨n0, n1, n2, n3, n4, n5, n6⟩ := node_says h3
    exact .inr ⟨i, q, x, y, (itemAt_range h3).1, (List.getElem?_eq_some_iff.1 h2).1, h2, n0, n1, n2, n3, n4, n5, n6, h4, h5, h6, h7, h8, h9⟩

/-- What hangs on a record, by the document's words: a number that is not lower counts as nothing. -/
def downL (L : List It) (t c : Int) : Int := if c < t then c else 0
theorem downL_of {L : List It} {t c : Int} (h : c < t) : downL L t c = c := if_pos h
/-- What is a node has a number among the items. -/
theorem kind_one_range {L : List It} {t : Int} (h : kindL L t = 1) : 1 ≤ t ∧ t ≤ L.length := by
  unfold kindL at h
  cases hx : itemAt L t with
  | none => rw [hx] at h; simp at h
  | some x => exact itemAt_range hx
theorem downL_lt {L : List It} {t c : Int} (h : kindL L t = 1) : (downL L t c).toNat < t.toNat := by
  have := kind_one_range h
  unfold downL
  split <;> omega
end Go.Proofs.Ytbmlpdkbiipcmaa

namespace Go.Proofs.Ytbmlpdkbiipcmaa
set_option linter.all false

theorem split_at {l : List Pr} {i : Nat} {q : Pr} (h : l[i]? = some q) : l = l.take i ++ (q :: l.drop (i + 1)) := by
  obtain ⟨hi, hq⟩ := List.getElem?_eq_some_iff.1 h
  conv => lhs; rw [← List.take_append_drop i l, List.drop_eq_getElem_cons hi, hq]

theorem Srt.below {l : List Pr} (h : Srt l) {i : Nat} {q : Pr} (hq : l[i]? = some q) : ∀ x ∈ l.take i, x.1 < q.1 := by
  intro x hx
  obtain ⟨j, hj⟩ := List.getElem?_of_mem hx
  have hji : j < i := by
    have := (List.getElem?_eq_some_iff.1 hj).1
    rw [List.length_take] at this
    omega
  rw [List.getElem?_take_of_lt hji] at hj
  exact h.at j i x q hji hj hq
theorem Srt.above {l : List Pr} (h : Srt l) {i : Nat} {q : Pr} (hq : l[i]? = some q) : ∀ x ∈ l.drop (i + 1), q.1 < x.1 := by
  intro x hx
  obtain ⟨j, hj⟩ := List.getElem?_of_mem hx
  rw [List.getElem?_drop] at hj
  exact h.at i (i + 1 + j) q x (by omega) hq hj

/-! ### Which pair has a key -/

def findL (l : List Pr) (key : Int) : Option Pr := l.find? (fun q => decide (q.1 = key))
theorem findL_nil (key : Int) : findL [] key = none := rfl
theorem findL_none {l : List Pr} {key : Int} (h : ∀ x ∈ l, x.1 ≠ key) : findL l key = none := by
  unfold findL
  rw [List.find?_eq_none]
  intro x hx
  simpa using h x hx
theorem findL_left {l : List Pr} (h : Srt l) {i : Nat} {q : Pr} (hq : l[i]? = some q) {key : Int} (hk : key < q.1) : findL l key = findL (l.take i) key := by
  have e := split_at hq
  have hn : findL (q :: l.drop (i + 1)) key = none := findL_none (fun x hx => by
    rcases List.mem_cons.1 hx with rfl | hx
    · omega
    · have := h.above hq x hx; omega)
  conv => lhs; rw [e]
  unfold findL at hn ⊢
  rw [List.find?_append, hn, Option.or_none]
theorem findL_right {l : List Pr} (h : Srt l) {i : Nat} {q : Pr} (hq : l[i]? = some q) {key : Int} (hk : q.1 < key) : findL l key = findL (l.drop (i + 1)) key := by
  have e := split_at hq
  have hn : findL (l.take i) key = none := findL_none (fun x hx => by have := h.below hq x hx; omega)
  conv => lhs; rw [e]
  unfold findL at hn ⊢
  rw [List.find?_append, hn, Option.none_or, List.find?_cons_of_neg (by simp; omega)]
theorem findL_here {l : List Pr} (h : Srt l) {i : Nat} {q : Pr} (hq : l[i]? = some q) : findL l q.1 = some q := by
  have e := split_at hq
  have hn : findL (l.take i) q.1 = none := findL_none (fun x hx => by have := h.below hq x hx; omega)
  conv => lhs; rw [e]
  unfold findL at hn ⊢
  rw [List.find?_append, hn, Option.none_or, List.find?_cons_of_pos (by simp)]

/-! ### How many have a key below -/

def belowL (l : List Pr) (key : Int) : Nat := (l.filter (fun q => decide (q.1 < key))).length
theorem belowL_nil (key : Int) : belowL [] key = 0 := rfl
theorem belowL_le (l : List Pr) (key : Int) : belowL l key ≤ l.length := List.length_filter_le _ _
theorem belowL_left {l : List Pr} (h : Srt l) {i : Nat} {q : Pr} (hq : l[i]? = some q) {key : Int} (hk : key ≤ q.1) : belowL l key = belowL (l.take i) key := by
  have e := split_at hq
  have hn : (q :: l.drop (i + 1)).filter (fun q => decide (q.1 < key)) = [] := List.filter_eq_nil_iff.2 (fun x hx => by
    rcases List.mem_cons.1 hx with rfl | hx
    · simp; omega
    · have := h.above hq x hx; simp; omega)
  unfold belowL
  conv => lhs; rw [e, List.filter_append, hn, List.append_nil]
theorem belowL_all {l : List Pr} {key : Int} (h : ∀ x ∈ l, x.1 < key) : belowL l key = l.length := by
  unfold belowL
  rw [List.filter_eq_self.2 (fun x hx => by simpa using h x hx)]
theorem belowL_right {l : List Pr} (h : Srt l) {i : Nat} {q : Pr} (hq : l[i]? = some q) {key : Int} (hk : q.1 < key) : belowL l key = i + 1 + belowL (l.drop (i + 1)) key := by
  have e := split_at hq
  have hi := (List.getElem?_eq_some_iff.1 hq).1
  have h1 : belowL (l.take i) key = i := by rw [belowL_all (fun x hx => by have := h.below hq x hx; omega), List.length_take]; omega
  unfold belowL at h1 ⊢
  conv => lhs; rw [e, List.filter_append, List.length_append, h1, List.filter_cons_of_pos (by simpa using hk)]
  simp; omega
theorem belowL_here {l : List Pr} (h : Srt l) {i : Nat} {q : Pr} (hq : l[i]? = some q) : belowL l q.1 = i := by
  have hi := (List.getElem?_eq_some_iff.1 hq).1
  rw [belowL_left h hq (Int.le_refl _), belowL_all (fun x hx => h.below hq x hx), List.length_take]
  omega

/-! ### Which pair is the n-th -/

theorem nth_left {l : List Pr} {i n : Nat} (hn : n < i) : l[n]? = (l.take i)[n]? := (List.getElem?_take_of_lt hn).symm
theorem nth_right {l : List Pr} {i n : Nat} (hn : i < n) : l[n]? = (l.drop (i + 1))[n - (i + 1)]? := by
  rw [List.getElem?_drop]
  congr 1
  omega
end Go.Proofs.Ytbmlpdkbiipcmaa

namespace Go.Proofs.Ytbmlpdkbiipcmaa
open Go.RowKit
set_option linter.all false

/-- An arena whose blocks are these of S, and newer ones than w0; nothing else older has turned. -/
structure HeldS (S : Nat → Prop) (w0 w : World) (p : Nat) (room st : Int) (l : List It) : Prop where
  a : Arena w p (fun k => S k ∨ w0.heap.size ≤ k) room st l
  b : Only S w0 w

section
variable {S : Nat → Prop} {w0 w w' : World} {p : Nat} {room st : Int} {l : List It}
theorem Only.thenBelow (h : Only S w0 w) (hb : Below w.heap.size w w') : Only S w0 w' := h.trans (Only.ofBelow (S := fun _ => False) hb) (fun _ hf => hf.elim)
theorem HeldS.below (h : HeldS S w0 w p room st l) (hb : Below w.heap.size w w') : HeldS S w0 w' p room st l := ⟨h.a.below hb, h.b.thenBelow hb⟩
theorem HeldS.only {st' : Int} {l' : List It} (h : HeldS S w0 w p room st l) (ha : Arena w' p (Plus (fun k => S k ∨ w0.heap.size ≤ k) w w') room st' l') (ho : Only (fun k => S k ∨ w0.heap.size ≤ k) w w') : HeldS S w0 w' p room st' l' :=
  ⟨ha.mono (fun k hk hlt => by
    rcases hk with hk | hk
    · exact hk
    · exact .inr (Nat.le_trans h.b.size hk.1)), h.b.trans ho (fun i hi hlt => by
    rcases hi with hi | hi
    · exact hi
    · omega)⟩
theorem HeldS.oldS (h : HeldS S w0 w p room st l) {b o : Nat} {v : Value} (hc : w0.cell? ⟨b, o, none⟩ = some v) (hS : ¬ S b) : w.cell? ⟨b, o, none⟩ = some v := h.b.cell hc hS
theorem prs_onlyS {a : Option Addr} {cap : Nat} {l : List Pr} (h : Prs w0 a cap l) (o : Only S w0 w) (hS : ∀ b o, a = some ⟨b, o, none⟩ → ¬ S b) : Prs w a cap l :=
  ⟨h.1, h.2.1, fun n q hq => by
    obtain ⟨b, o', rfl, h0, h1⟩ := h.2.2 n q hq
    exact ⟨b, o', rfl, o.cell h0 (hS b o' rfl), o.cell h1 (hS b o' rfl)⟩⟩
theorem nmake_heldS (h : HeldS S w0 w p room st l) (k v lt rt sl hl sr hr n s hh : Int) (l' : List It) (h1 : Hung l lt sl hl) (h2 : Hung l rt sr hr) (hroom : (l.length : Int) < room)
    (b1 : 0 ≤ sl ∧ sl ≤ 4611686018427387900) (b2 : 0 ≤ sr ∧ sr ≤ 4611686018427387900) (b3 : 0 ≤ hl ∧ hl ≤ 4611686018427387900) (b4 : 0 ≤ hr ∧ hr ≤ 4611686018427387900)
    (hn : n = l.length + 1) (hs : s = sl + sr + 1) (hhh : hh = max hl hr + 1) (hl' : l' = l ++ [(1, [k, v, lt, rt, s, hh])]) :
    Calls Try.prog 14 #[.pointer (some ⟨p, 0, none⟩), .agg #[.int .i64 k, .int .i64 v], .int .i64 lt, .int .i64 rt] w fun e w' => e = .returned (.tuple #[.int .i64 n, .int .i64 0]) ∧ HeldS S w0 w' p room st l' := by
  have es : oneM sl sr = s := by rw [oneM_small b1.1 (by omega) (by omega)]; omega
  have eh : oneM (max hl hr) 0 = hh := by rw [oneM_high (by omega) (by omega)]; omega
  subst hn; subst hl'
  refine (nmake_ok k v h.a h1 h2 hroom).mono fun e w' ⟨he, ha, ho⟩ => ?_
  rw [es, eh] at ha
  exact ⟨by rw [he]; simp, h.only ha ho⟩
end

/-! ### Laid -/

/-- What Laid tells. -/
def LaidS (S : Nat → Prop) (w1 : World) (p : Nat) (room st : Int) (L : List It) (l : List Pr) (e : Ending) (w' : World) : Prop :=
  ∃ t L', e = .returned (.tuple #[.int .i64 t, .bool true]) ∧ HeldS S w1 w' p room st (L ++ L') ∧ L'.length = l.length ∧ Tree (L ++ L') t l ∧ Good (L ++ L')

set_option maxRecDepth 100000 in
set_option maxHeartbeats 6400000 in
theorem laidS_any (S : Nat → Prop) (w1 : World) (p : Nat) (room st : Int) (N : Nat) : ∀ (a : Option Addr) (cap : Nat) (l : List Pr) (w : World) (L : List It), l.length ≤ N → Prs w1 a cap l → (∀ b o, a = some ⟨b, o, none⟩ → ¬ S b) → HeldS S w1 w p room st L → Good L → ((L.length + l.length : Nat) : Int) ≤ room → l.length ≤ 1000 →
    Calls Try.prog 9 #[.pointer (some ⟨p, 0, none⟩), .slice a l.length cap] w (LaidS S w1 p room st L l) := by
  have neg : ∀ (a : Option Addr) (cap : Nat) (l : List Pr) (w : World) (L : List It), Prs w1 a cap l → (∀ b o, a = some ⟨b, o, none⟩ → ¬ S b) → HeldS S w1 w p room st L → Good L → topL l < 0 →
      Calls Try.prog 9 #[.pointer (some ⟨p, 0, none⟩), .slice a l.length cap] w (LaidS S w1 p room st L l) := by
    intro a cap l w L hP hS hH hG ht
    obtain rfl := topL_pos l ht
    have ct := top_any a cap [] w (prs_onlyS hP hH.b hS)
    rw [topL_nil, List.length_nil] at ct
    rw [List.length_nil]
    have HH := Lib.hid hH
    clear hH hP ht
    go_enter Try.func9, Try.ntmps9
    go_wp2_with (go_at_call 16; ((with_reducible refine ct.mono ?_); clear ct; rintro e w2 ⟨rfl, hb⟩))
    go_ret2
    exact ⟨0, [], rfl, by rw [List.append_nil]; exact HH.out.below hb, rfl, .nil, by rw [List.append_nil]; exact hG⟩
  induction N with
  | zero =>
    intro a cap l w L hN hP hS hH hG hr hl
    exact neg a cap l w L hP hS hH hG (by have := topL_lt l; omega)
  | succ N ih =>
    intro a cap l w L hN hP hS hH hG hr hl
    by_cases ht : topL l < 0
    · exact neg a cap l w L hP hS hH hG ht
    · have hB := topL_lt l
      obtain ⟨i, hi'⟩ : ∃ i : Nat, topL l = i := ⟨(topL l).toNat, by omega⟩
      have ct := top_any a cap l w (prs_onlyS hP hH.b hS)
      rw [hi'] at ct
      have hil : i < l.length := by omega
      obtain ⟨b, o, rfl⟩ := hP.some i hil
      obtain ⟨e1, P1⟩ := hP.take i hil
      obtain ⟨aD, e2, P2, hD⟩ := hP.drop i hil
      have hSb : ¬ S b := hS b o rfl
      have hSD : ∀ b' o', aD = some ⟨b', o', none⟩ → ¬ S b' := by
        intro b' o' e
        rcases hD with ⟨_, hD⟩ | ⟨_, hD⟩ <;> (rw [hD] at e; cases e; exact hSb)
      have c1 := fun W (hW : HeldS S w1 W p room st L) => ih _ _ (l.take i) W L (by omega) P1 hS hW hG (by omega) (by omega)
      have c2 := fun W M (hW : HeldS S w1 W p room st M) (hg : Good M) (hM : M.length = L.length + i) => ih _ _ (l.drop (i + 1)) W M (by omega) P2 hSD hW hg (by omega) (by omega)
      obtain ⟨q, hq⟩ : ∃ q, l[i]? = some q := ⟨_, List.getElem?_eq_getElem hil⟩
      obtain ⟨b', o', e', hc0, hc1⟩ := hP.2.2 i q hq
      cases e'
      obtain ⟨k, v⟩ := q
      dsimp only at hc0 hc1
      have HQ := Lib.hid hq
      have HT := Lib.hid hi'
      have HG := Lib.hid hG
      have HE1 := Lib.hid e1
      have HE2 := Lib.hid e2
      have cfin : ∀ W (M : List It) (x y : Int) (L1 L2 : List It), HeldS S w1 W p room st (L ++ L1 ++ L2) → L1.length = i → L2.length = l.length - (i + 1) → Tree (L ++ L1) x (l.take i) → Tree (L ++ L1 ++ L2) y (l.drop (i + 1)) → Good (L ++ L1 ++ L2) →
          Calls Try.prog 14 #[.pointer (some ⟨p, 0, none⟩), .agg #[.int .i64 k, .int .i64 v], .int .i64 x, .int .i64 y] W fun e w' =>
            ∃ t L', e = .returned (.tuple #[.int .i64 t, .int .i64 0]) ∧ HeldS S w1 w' p room st (L ++ L') ∧ L'.length = l.length ∧ Tree (L ++ L') t l ∧ Good (L ++ L') := by
        intro W M x y L1 L2 hW n1 n2 t1 t2 hg
        have t1' := t1.app L2
        have hl1 := hi_le _ (l.take i) (Nat.le_refl _)
        have hl2 := hi_le _ (l.drop (i + 1)) (Nat.le_refl _)
        obtain ⟨g1, x0, x1⟩ := t1'.hung (by omega)
        obtain ⟨g2, y0, y1⟩ := t2.hung (by omega)
        have hh := hi_at l i HT.out
        have elen : (L ++ L1 ++ L2).length = L.length + i + (l.length - (i + 1)) := by rw [List.length_append, List.length_append, n1, n2]
        refine (nmake_heldS hW k v x y _ _ _ _ ((L ++ L1 ++ L2).length + 1) (l.length : Int) (hi l : Int) _ g1 g2 (by omega) ⟨by omega, by omega⟩ ⟨by omega, by omega⟩ ⟨by omega, by omega⟩ ⟨by omega, by omega⟩ rfl (by omega) (by rw [hh]; omega) rfl).mono ?_
        rintro e w' ⟨rfl, hH'⟩
        have eapp : L ++ L1 ++ L2 ++ [(1, [k, v, x, y, (l.length : Int), (hi l : Int)])] = L ++ (L1 ++ L2 ++ [(1, [k, v, x, y, (l.length : Int), (hi l : Int)])]) := by simp
        refine ⟨_, L1 ++ L2 ++ [(1, [k, v, x, y, (l.length : Int), (hi l : Int)])], rfl, ?_, ?_, ?_, ?_⟩
        · rw [← eapp]; exact hH'
        · rw [List.length_append, List.length_append, n1, n2]; simp; omega
        · rw [← eapp]
          exact .node _ x y l i (k, v) HT.out HQ.out (itemAt_new _ _ _ rfl) (by omega) (by omega) x0 y0 (t1'.app _) (t2.app _)
        · rw [← eapp]
          exact hg.snoc k v x y _ _ ⟨x0, x1⟩ ⟨y0, y1⟩ (by rw [g1.size, g2.size]; omega) (by rw [g1.high, g2.high, hh]; omega) ⟨by omega, by omega, by omega, by omega⟩
      clear hB hi' ht
      rw [e1] at c1
      rw [e2] at c2
      have hcap := hP.1
      have hcapm := hP.2.1
      unfold maxLen at hcapm
      have hmn : ¬ (i : Int) < 0 := by omega
      have hm0 : (0 : Int) ≤ (i : Int) := by omega
      have hii : (i : Int) ≤ (l.length : Int) := by omega
      have hii2 : (i : Int) + 1 ≤ (l.length : Int) := by omega
      have hii3 : (i : Int) < (l.length : Int) := by omega
      have hw : wrap64 ((i : Int) + 1) = (i : Int) + 1 := by unfold wrap64; omega
      have h01 : (0 : Int) ≤ (i : Int) + 1 := by omega
      have hic : (i : Int) ≤ (cap : Int) := by omega
      have hic1 : (i : Int) + 1 ≤ (cap : Int) := by omega
      have hlc : (l.length : Int) ≤ (cap : Int) := by omega
      have hcap0 : ¬ cap = 0 := by omega
      have HH := Lib.hid hH
      have hw0 := hP
      clear hP P1 P2 ih e1 e2 hq hH hG neg hw0
      rcases hD with ⟨rfl, rfl⟩ | ⟨hcc, rfl⟩
      · have hlen0 : l.length - (i + 1) = 0 := by omega
        rw [Nat.sub_self, hlen0] at c2
        go_enter Try.func9, Try.ntmps9
        go_wp2_with (first
          | (go_at_call 16; ((with_reducible refine ct.mono ?_); clear ct; rintro e w2 ⟨rfl, hb⟩; have h2 := HH.out.below hb; clear hb))
          | (go_at_call 9; ((with_reducible refine (c1 _ h2).mono ?_); clear c1; rintro e w3 ⟨x, L1, rfl, h3, n1, t1, g1⟩; have T1 := Lib.hid t1; clear t1 h2))
          | (go_at_call 9; ((with_reducible refine (c2 _ _ h3 g1 (by rw [List.length_append, n1, HE1.out])).mono ?_); clear c2; rintro e w4 ⟨y, L2, rfl, h4, n2, t2, g2⟩; have T2 := Lib.hid t2; have k0 := h4.oldS hc0 hSb; have k1 := h4.oldS hc1 hSb; clear t2 h3 g1))
          | (go_at_call 14; ((with_reducible refine (cfin _ [] x y L1 L2 h4 (n1.trans HE1.out) (n2.trans HE2.out) T1.out T2.out g2).mono ?_); clear cfin; rintro e w5 ⟨t, L', rfl, h5, n5, t5, g5⟩)))
        go_ret2
        exact ⟨t, L', rfl, h5, n5, t5, g5⟩
      · go_enter Try.func9, Try.ntmps9
        go_wp2_with (first
          | (go_at_call 16; ((with_reducible refine ct.mono ?_); clear ct; rintro e w2 ⟨rfl, hb⟩; have h2 := HH.out.below hb; clear hb))
          | (go_at_call 9; ((with_reducible refine (c1 _ h2).mono ?_); clear c1; rintro e w3 ⟨x, L1, rfl, h3, n1, t1, g1⟩; have T1 := Lib.hid t1; clear t1 h2))
          | (go_at_call 9; ((with_reducible refine (c2 _ _ h3 g1 (by rw [List.length_append, n1, HE1.out])).mono ?_); clear c2; rintro e w4 ⟨y, L2, rfl, h4, n2, t2, g2⟩; have T2 := Lib.hid t2; have k0 := h4.oldS hc0 hSb; have k1 := h4.oldS hc1 hSb; clear t2 h3 g1))
          | (go_at_call 14; ((with_reducible refine (cfin _ [] x y L1 L2 h4 (n1.trans HE1.out) (n2.trans HE2.out) T1.out T2.out g2).mono ?_); clear cfin; rintro e w5 ⟨t, L', rfl, h5, n5, t5, g5⟩)))
        go_ret2
        exact ⟨t, L', rfl, h5, n5, t5, g5⟩
end Go.Proofs.Ytbmlpdkbiipcmaa

namespace Go.Proofs.Ytbmlpdkbiipcmaa
open Go.RowKit
set_option linter.all false

def keyAt (l : List Pr) (j : Nat) : Int := (l.getD j (0, 0)).1
theorem keyAt_of {l : List Pr} {j : Nat} {q : Pr} (h : l[j]? = some q) : keyAt l j = q.1 := by unfold keyAt; simp [List.getD, h]
theorem keyAt_lt {l : List Pr} (hs : Srt l) {i j : Nat} (hij : i < j) (hj : j < l.length) : keyAt l i < keyAt l j := by
  have h := hs.at i j l[i] l[j] hij (List.getElem?_eq_getElem (by omega)) (List.getElem?_eq_getElem hj)
  rw [keyAt_of (List.getElem?_eq_getElem (show i < l.length by omega)), keyAt_of (List.getElem?_eq_getElem hj)]
  exact h
theorem keyAt_ne {l : List Pr} (hs : Srt l) {i j : Nat} (hij : i ≠ j) (hi : i < l.length) (hj : j < l.length) : keyAt l i ≠ keyAt l j := by
  rcases Nat.lt_or_ge i j with h | h
  · have := keyAt_lt hs h hj; omega
  · have := keyAt_lt hs (show j < i by omega) hi; omega

theorem bestF_top {l : List Pr} (hs : Srt l) : ∀ n, 0 < n → n ≤ l.length → ∃ b : Nat, bestF l n = b ∧ b < n ∧ ∀ j, j < n → j ≠ b → abv (keyAt l b) (keyAt l j) = true := by
  intro n
  induction n with
  | zero => intro h; omega
  | succ n ih =>
    intro _ hn
    by_cases h0 : n = 0
    · subst h0
      exact ⟨0, rfl, by omega, fun j hj hne => by omega⟩
    · obtain ⟨b, hb, hbn, hall⟩ := ih (by omega) (by omega)
      unfold bestF
      rw [hb, if_neg (by omega), Int.toNat_natCast]
      by_cases ha : abv (keyAt l n) (keyAt l b) = true
      · refine ⟨n, if_pos ha, by omega, fun j hj hne => ?_⟩
        by_cases hjb : j = b
        · subst hjb; exact ha
        · exact abv_trans _ _ _ ha (hall j (by omega) hjb)
      · refine ⟨b, if_neg ha, by omega, fun j hj hne => ?_⟩
        by_cases hjn : j = n
        · subst hjn
          have := abv_or (keyAt l b) (keyAt l j) (keyAt_ne hs (by omega) (by omega) (by omega))
          rw [this]; simpa using ha
        · exact hall j (by omega) hne
theorem abv_asym {a b : Int} (h : abv a b = true) (k : abv b a = true) : False := by
  have := abv_trans a b a h k
  rw [abv_self] at this
  cases this
theorem abv_of_not {a b : Int} (h : ¬ abv a b = true) (hne : a ≠ b) : abv b a = true := by
  rw [abv_or b a (fun e => hne e.symm)]
  simpa using h

/-- Of pairs among which one is above all others that one is on top. -/
theorem top_app {A B : List Pr} {q : Pr} (hs : Srt (A ++ q :: B)) (h : ∀ z ∈ A ++ B, abv q.1 z.1 = true) : topL (A ++ q :: B) = (A.length : Int) := by
  have hlen : (A ++ q :: B).length = A.length + 1 + B.length := by simp; omega
  obtain ⟨b, hb, hbn, hall⟩ := bestF_top hs (A ++ q :: B).length (by omega) (Nat.le_refl _)
  unfold topL
  rw [hb]
  by_cases hne : b = A.length
  · rw [hne]
  · exfalso
    have hq : (A ++ q :: B)[A.length]? = some q := by simp
    have h1 := hall A.length (by omega) (fun e => hne e.symm)
    rw [keyAt_of hq] at h1
    obtain ⟨z, hz⟩ : ∃ z, (A ++ q :: B)[b]? = some z := ⟨_, List.getElem?_eq_getElem hbn⟩
    rw [keyAt_of hz] at h1
    have hzm : z ∈ A ++ B := by
      rcases Nat.lt_or_ge b A.length with hlt | hge
      · rw [List.getElem?_append_left hlt] at hz
        exact List.mem_append_left _ (List.mem_of_getElem? hz)
      · rw [List.getElem?_append_right hge, show b - A.length = (b - A.length - 1) + 1 by omega, List.getElem?_cons_succ] at hz
        exact List.mem_append_right _ (List.mem_of_getElem? hz)
    exact abv_asym (h z hzm) h1
theorem hi_app {A B : List Pr} {q : Pr} (hs : Srt (A ++ q :: B)) (h : ∀ z ∈ A ++ B, abv q.1 z.1 = true) : hi (A ++ q :: B) = 1 + max (hi A) (hi B) := by
  rw [hi_at _ A.length (top_app hs h)]
  simp
theorem Tree.cat {L : List It} {t x y : Int} {A B : List Pr} {q : Pr} (hs : Srt (A ++ q :: B)) (h : ∀ z ∈ A ++ B, abv q.1 z.1 = true) {n m : Int}
    (e : itemAt L t = some (1, [q.1, q.2, x, y, n, m])) (hn : n = A.length + B.length + 1) (hm : m = max (hi A : Int) (hi B : Int) + 1) (hx : x < t) (hy : y < t) (hx0 : 0 ≤ x) (hy0 : 0 ≤ y) (tx : Tree L x A) (ty : Tree L y B) : Tree L t (A ++ q :: B) := by
  refine .node t x y _ A.length q (top_app hs h) (by simp) ?_ hx hy hx0 hy0 (by simpa using tx) (by simpa using ty)
  rw [e, hn, hm, hi_app hs h]
  have e1 : (A.length : Int) + B.length + 1 = ((A ++ q :: B).length : Int) := by simp; omega
  have e2 : max (hi A : Int) (hi B : Int) + 1 = ((1 + max (hi A) (hi B) : Nat) : Int) := by omega
  rw [e1, e2]

theorem Srt.cat {A B : List Pr} {q : Pr} (ha : Srt A) (hb : Srt B) (h1 : ∀ z ∈ A, z.1 < q.1) (h2 : ∀ z ∈ B, q.1 < z.1) : Srt (A ++ q :: B) := by
  unfold Srt at ha hb ⊢
  rw [List.pairwise_append, List.pairwise_cons]
  refine ⟨ha, ⟨h2, hb⟩, fun a hA b hB => ?_⟩
  rcases List.mem_cons.1 hB with rfl | hB
  · exact h1 a hA
  · have := h1 a hA; have := h2 b hB; omega
theorem Srt.parts {A B : List Pr} {q : Pr} (hs : Srt (A ++ q :: B)) : Srt A ∧ Srt B ∧ (∀ z ∈ A, z.1 < q.1) ∧ (∀ z ∈ B, q.1 < z.1) := by
  unfold Srt at hs ⊢
  rw [List.pairwise_append, List.pairwise_cons] at hs
  exact ⟨hs.1, hs.2.1.2, fun z hz => hs.2.2 z hz q (List.mem_cons_self ..), hs.2.1.1⟩

/-- A treap taken apart at its top. -/
structure Apart (L : List It) (t x y : Int) (A B : List Pr) (q : Pr) : Prop where
  srt : Srt (A ++ q :: B)
  top : ∀ z ∈ A ++ B, abv q.1 z.1 = true
  item : itemAt L t = some (1, [q.1, q.2, x, y, ((A.length + B.length + 1 : Nat) : Int), ((1 + max (hi A) (hi B) : Nat) : Int)])
  hx : x < t
  hy : y < t
  x0 : 0 ≤ x
  y0 : 0 ≤ y
  tx : Tree L x A
  ty : Tree L y B
theorem Tree.apart {L : List It} {t : Int} {l : List Pr} (h : Tree L t l) (hs : Srt l) : (t = 0 ∧ l = []) ∨ ∃ x y A B q, l = A ++ q :: B ∧ Apart L t x y A B q := by
  rcases h.parts with ⟨rfl, rfl⟩ | ⟨i, q, x, y, h1, h2, h3, h4, h5, h6, h7, h8, h9⟩
  · exact .inl ⟨rfl, rfl⟩
  · have e := split_at h2
    have hi' := (List.getElem?_eq_some_iff.1 h2).1
    obtain ⟨b, hb, hbn, hall⟩ := bestF_top hs l.length (by omega) (Nat.le_refl _)
    have hbi : b = i := by have : topL l = (b : Int) := hb; omega
    subst hbi
    have htop : ∀ z ∈ l.take b ++ l.drop (b + 1), abv q.1 z.1 = true := by
      intro z hz
      rcases List.mem_append.1 hz with hz | hz
      · obtain ⟨j, hj⟩ := List.getElem?_of_mem hz
        have hjb : j < b := by have := (List.getElem?_eq_some_iff.1 hj).1; rw [List.length_take] at this; omega
        rw [List.getElem?_take_of_lt hjb] at hj
        have := hall j (by omega) (by omega)
        rwa [keyAt_of h2, keyAt_of hj] at this
      · obtain ⟨j, hj⟩ := List.getElem?_of_mem hz
        rw [List.getElem?_drop] at hj
        have hjl := (List.getElem?_eq_some_iff.1 hj).1
        have := hall (b + 1 + j) (by omega) (by omega)
        rwa [keyAt_of h2, keyAt_of hj] at this
    refine .inr ⟨x, y, l.take b, l.drop (b + 1), q, e, ⟨by rw [← e]; exact hs, htop, ?_, h4, h5, h6, h7, h8, h9⟩⟩
    rw [h3, ← hi_at l b h1]
    have : (l.take b).length + (l.drop (b + 1)).length + 1 = l.length := by rw [List.length_take, List.length_drop]; omega
    rw [this]
theorem Apart.tree {L : List It} {t x y : Int} {A B : List Pr} {q : Pr} (h : Apart L t x y A B q) : Tree L t (A ++ q :: B) :=
  Tree.cat h.srt h.top h.item (by omega) (by omega) h.hx h.hy h.x0 h.y0 h.tx h.ty
theorem Apart.app {L : List It} {t x y : Int} {A B : List Pr} {q : Pr} (h : Apart L t x y A B q) (M : List It) : Apart (L ++ M) t x y A B q :=
  ⟨h.srt, h.top, itemAt_app h.item M, h.hx, h.hy, h.x0, h.y0, h.tx.app M, h.ty.app M⟩

/-! ### Keys below, keys above -/

def loL (l : List Pr) (k : Int) : List Pr := l.filter (fun z => decide (z.1 < k))
def hiL (l : List Pr) (k : Int) : List Pr := l.filter (fun z => decide (k < z.1))
theorem loL_mem {l : List Pr} {k : Int} {z : Pr} : z ∈ loL l k ↔ z ∈ l ∧ z.1 < k := by unfold loL; rw [List.mem_filter, decide_eq_true_iff]
theorem hiL_mem {l : List Pr} {k : Int} {z : Pr} : z ∈ hiL l k ↔ z ∈ l ∧ k < z.1 := by unfold hiL; rw [List.mem_filter, decide_eq_true_iff]
theorem loL_srt {l : List Pr} (h : Srt l) (k : Int) : Srt (loL l k) := h.filter _
theorem hiL_srt {l : List Pr} (h : Srt l) (k : Int) : Srt (hiL l k) := h.filter _
theorem loL_nil (k : Int) : loL [] k = [] := rfl
theorem hiL_nil (k : Int) : hiL [] k = [] := rfl
theorem loL_all {l : List Pr} {k : Int} (h : ∀ z ∈ l, z.1 < k) : loL l k = l := List.filter_eq_self.2 (fun z hz => by simpa using h z hz)
theorem loL_none {l : List Pr} {k : Int} (h : ∀ z ∈ l, k ≤ z.1) : loL l k = [] := List.filter_eq_nil_iff.2 (fun z hz => by have := h z hz; simp; omega)
theorem hiL_all {l : List Pr} {k : Int} (h : ∀ z ∈ l, k < z.1) : hiL l k = l := List.filter_eq_self.2 (fun z hz => by simpa using h z hz)
theorem hiL_none {l : List Pr} {k : Int} (h : ∀ z ∈ l, z.1 ≤ k) : hiL l k = [] := List.filter_eq_nil_iff.2 (fun z hz => by have := h z hz; simp; omega)
theorem withL_cat {l : List Pr} (h : Srt l) (k v : Int) : withL l k v = loL l k ++ (k, v) :: hiL l k := by
  rw [withL_srt l k v h]; unfold loL hiL; simp

section
variable {A B : List Pr} {q : Pr} {k : Int}
theorem loL_left (hs : Srt (A ++ q :: B)) (hk : k ≤ q.1) : loL (A ++ q :: B) k = loL A k := by
  obtain ⟨_, _, h1, h2⟩ := hs.parts
  unfold loL
  rw [List.filter_append, List.filter_cons_of_neg (by simp; omega)]
  have : B.filter (fun z => decide (z.1 < k)) = [] := loL_none (fun z hz => by have := h2 z hz; omega)
  rw [this, List.append_nil]
theorem hiL_left (hs : Srt (A ++ q :: B)) (hk : k < q.1) : hiL (A ++ q :: B) k = hiL A k ++ q :: B := by
  obtain ⟨_, _, h1, h2⟩ := hs.parts
  unfold hiL
  rw [List.filter_append, List.filter_cons_of_pos (by simpa using hk)]
  have : B.filter (fun z => decide (k < z.1)) = B := hiL_all (fun z hz => by have := h2 z hz; omega)
  rw [this]
theorem loL_right (hs : Srt (A ++ q :: B)) (hk : q.1 < k) : loL (A ++ q :: B) k = A ++ q :: loL B k := by
  obtain ⟨_, _, h1, h2⟩ := hs.parts
  unfold loL
  rw [List.filter_append, List.filter_cons_of_pos (by simpa using hk)]
  have : A.filter (fun z => decide (z.1 < k)) = A := loL_all (fun z hz => by have := h1 z hz; omega)
  rw [this]
theorem hiL_right (hs : Srt (A ++ q :: B)) (hk : q.1 ≤ k) : hiL (A ++ q :: B) k = hiL B k := by
  obtain ⟨_, _, h1, h2⟩ := hs.parts
  unfold hiL
  rw [List.filter_append, List.filter_cons_of_neg (by simp; omega)]
  have : A.filter (fun z => decide (k < z.1)) = [] := hiL_none (fun z hz => by have := h1 z hz; omega)
  rw [this, List.nil_append]
theorem loL_here (hs : Srt (A ++ q :: B)) : loL (A ++ q :: B) q.1 = A := by
  rw [loL_left hs (Int.le_refl _)]; exact loL_all (hs.parts.2.2.1)
theorem hiL_here (hs : Srt (A ++ q :: B)) : hiL (A ++ q :: B) q.1 = B := by
  rw [hiL_right hs (Int.le_refl _)]; exact hiL_all (hs.parts.2.2.2)
theorem withL_left (hs : Srt (A ++ q :: B)) (v : Int) (hk : k < q.1) : withL (A ++ q :: B) k v = withL A k v ++ q :: B := by
  rw [withL_cat hs, withL_cat hs.parts.1, loL_left hs (by omega), hiL_left hs hk]; simp
theorem withL_right (hs : Srt (A ++ q :: B)) (v : Int) (hk : q.1 < k) : withL (A ++ q :: B) k v = A ++ q :: withL B k v := by
  rw [withL_cat hs, withL_cat hs.parts.2.1, loL_right hs hk, hiL_right hs (by omega)]; simp
theorem withL_here (hs : Srt (A ++ q :: B)) (v : Int) : withL (A ++ q :: B) q.1 v = A ++ (q.1, v) :: B := by
  rw [withL_cat hs, loL_here hs, hiL_here hs]
end
theorem withL_nil (k v : Int) : withL [] k v = [(k, v)] := by rw [withL_cat Srt.nil]; rfl
theorem findL_iff {l : List Pr} (hs : Srt l) (k : Int) : (findL l k).isSome = true ↔ ∃ z ∈ l, z.1 = k := by
  unfold findL
  rw [List.find?_isSome]
  simp

/-- A key that is above the top of a treap is not in it. -/
theorem not_in {A B : List Pr} {q : Pr} {k : Int} (htop : ∀ z ∈ A ++ B, abv q.1 z.1 = true) (hk : abv k q.1 = true) : ∀ z ∈ A ++ q :: B, z.1 ≠ k := by
  intro z hz e
  subst e
  rcases List.mem_append.1 hz with hz | hz
  · exact abv_asym hk (htop z (List.mem_append_left _ hz))
  · rcases List.mem_cons.1 hz with rfl | hz
    · rw [abv_self] at hk; cases hk
    · exact abv_asym hk (htop z (List.mem_append_right _ hz))
/-- .. and it is above all of it. -/
theorem all_below {A B : List Pr} {q : Pr} {k : Int} (htop : ∀ z ∈ A ++ B, abv q.1 z.1 = true) (hk : abv k q.1 = true) : ∀ z ∈ A ++ q :: B, abv k z.1 = true := by
  intro z hz
  rcases List.mem_append.1 hz with hz | hz
  · exact abv_trans _ _ _ hk (htop z (List.mem_append_left _ hz))
  · rcases List.mem_cons.1 hz with rfl | hz
    · exact hk
    · exact abv_trans _ _ _ hk (htop z (List.mem_append_right _ hz))
end Go.Proofs.Ytbmlpdkbiipcmaa
