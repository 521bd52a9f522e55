/- Plain mathematics of a stable sort of pairs by key: what is sorted, what keeps the order of each key's pairs, swaps, rotations, merged parts; the first pair of each key. No condition: definitions and lemmas. -/
import Derived.Test.YtadfnbmogobopaaPrG
namespace Go.Proofs.Ytadfnbmogobopaa
set_option linter.all false

/-- Keys do not fall. -/
def Le (l : List Pr) : Prop := l.Pairwise (fun a b => a.1 ≤ b.1)
/-- The pairs of each key are the same ones, in the same order. -/
def Stb (l l' : List Pr) : Prop := ∀ k : Int, l.filter (fun z => z.1 == k) = l'.filter (fun z => z.1 == k)

theorem Stb.refl (l : List Pr) : Stb l l := fun _ => rfl
theorem Stb.trans {a b c : List Pr} (h : Stb a b) (h' : Stb b c) : Stb a c := fun k => (h k).trans (h' k)
theorem Stb.app {a b c d : List Pr} (h : Stb a b) (h' : Stb c d) : Stb (a ++ c) (b ++ d) := fun k => by rw [List.filter_append, List.filter_append, h k, h' k]
theorem Stb.mem {a b : List Pr} (h : Stb a b) (z : Pr) : z ∈ a ↔ z ∈ b := by
  have e : ∀ l : List Pr, z ∈ l ↔ z ∈ l.filter (fun y => y.1 == z.1) := fun l => by simp [List.mem_filter]
  rw [e a, h z.1, ← e b]
theorem Stb.swap {U V : List Pr} (h : ∀ u ∈ U, ∀ v ∈ V, v.1 < u.1) : Stb (U ++ V) (V ++ U) := fun k => by
  rw [List.filter_append, List.filter_append]
  by_cases hU : U.filter (fun z => z.1 == k) = []
  · rw [hU]; simp
  · have hV : V.filter (fun z => z.1 == k) = [] := by
      rw [List.filter_eq_nil_iff]
      intro v hv he
      obtain ⟨u, hu⟩ := List.exists_mem_of_ne_nil _ hU
      rw [List.mem_filter] at hu
      have := h u hu.1 v hv
      have h1 : u.1 = k := by simpa using hu.2
      have h2 : v.1 = k := by simpa using he
      omega
    rw [hV]; simp
theorem Le.nil : Le [] := List.Pairwise.nil
theorem Le.one (x : Pr) : Le [x] := List.pairwise_singleton _ _
theorem Le.app {a b : List Pr} : Le (a ++ b) ↔ Le a ∧ Le b ∧ ∀ x ∈ a, ∀ y ∈ b, x.1 ≤ y.1 := List.pairwise_append
theorem Le.at {l : List Pr} (h : Le l) (i j : Nat) (a b : Pr) (hij : i ≤ j) (ha : l[i]? = some a) (hb : l[j]? = some b) : a.1 ≤ b.1 := by
  rcases Nat.lt_or_eq_of_le hij with hlt | rfl
  · obtain ⟨hi, ea⟩ := List.getElem?_eq_some_iff.1 ha
    obtain ⟨hj, eb⟩ := List.getElem?_eq_some_iff.1 hb
    have := (List.pairwise_iff_getElem.1 h) i j hi hj hlt
    rw [ea, eb] at this
    exact this
  · rw [ha] at hb; cases hb; exact Int.le_refl _
theorem Le.short {l : List Pr} (h : l.length ≤ 1) : Le l := by
  match l, h with
  | [], _ => exact Le.nil
  | [x], _ => exact Le.one x
  | x :: y :: l, h => simp at h

/-- A pair goes into its place among sorted ones. -/
theorem ins_le {X1 X2 : List Pr} {y : Pr} (h : Le (X1 ++ X2)) (h1 : ∀ x ∈ X1, x.1 ≤ y.1) (h2 : ∀ x ∈ X2, y.1 < x.1) : Le (X1 ++ (y :: X2)) := by
  obtain ⟨ha, hb, hab⟩ := Le.app.1 h
  refine Le.app.2 ⟨ha, List.pairwise_cons.2 ⟨fun z hz => Int.le_of_lt (h2 z hz), hb⟩, fun x hx z hz => ?_⟩
  rcases List.mem_cons.1 hz with rfl | hz
  · exact h1 x hx
  · exact hab x hx z hz
theorem ins_stb {X1 X2 : List Pr} {y : Pr} (h2 : ∀ x ∈ X2, y.1 < x.1) : Stb ((X1 ++ X2) ++ [y]) (X1 ++ (y :: X2)) := by
  rw [List.append_assoc]
  exact (Stb.refl X1).app (Stb.swap (U := X2) (V := [y]) (fun u hu v hv => by simp at hv; subst hv; exact h2 u hu))
/-- The pair ahead of sorted ones goes behind those that are less. -/
theorem first_le {V1 V2 : List Pr} {u : Pr} (h : Le (V1 ++ V2)) (h1 : ∀ x ∈ V1, x.1 < u.1) (h2 : ∀ x ∈ V2, u.1 ≤ x.1) : Le (V1 ++ (u :: V2)) := by
  obtain ⟨ha, hb, hab⟩ := Le.app.1 h
  refine Le.app.2 ⟨ha, List.pairwise_cons.2 ⟨fun z hz => h2 z hz, hb⟩, fun x hx z hz => ?_⟩
  rcases List.mem_cons.1 hz with rfl | hz
  · exact Int.le_of_lt (h1 x hx)
  · exact hab x hx z hz
theorem first_stb {V1 V2 : List Pr} {u : Pr} (h1 : ∀ x ∈ V1, x.1 < u.1) : Stb (u :: (V1 ++ V2)) (V1 ++ (u :: V2)) := by
  have : Stb ([u] ++ V1) (V1 ++ [u]) := Stb.swap (fun a ha v hv => by simp at ha; subst ha; exact h1 v hv)
  simpa using this.app (Stb.refl V2)

theorem mrg {U1 U2 V1 V2 X1 X2 : List Pr} (h1 : ∀ u ∈ U1, ∀ v ∈ V2, u.1 ≤ v.1) (h2 : ∀ u ∈ U2, ∀ v ∈ V1, v.1 < u.1) (hU : Le (U1 ++ U2)) (hV : Le (V1 ++ V2))
    (l1 : Le X1) (s1 : Stb (U1 ++ V1) X1) (l2 : Le X2) (s2 : Stb (U2 ++ V2) X2) : Le (X1 ++ X2) ∧ Stb ((U1 ++ U2) ++ (V1 ++ V2)) (X1 ++ X2) := by
  constructor
  · refine Le.app.2 ⟨l1, l2, fun x hx y hy => ?_⟩
    have hx' := (s1.mem x).2 hx
    have hy' := (s2.mem y).2 hy
    rcases List.mem_append.1 hx' with hx' | hx' <;> rcases List.mem_append.1 hy' with hy' | hy'
    · exact (Le.app.1 hU).2.2 x hx' y hy'
    · exact h1 x hx' y hy'
    · exact Int.le_of_lt (h2 y hy' x hx')
    · exact (Le.app.1 hV).2.2 x hx' y hy'
  · have e : Stb ((U1 ++ U2) ++ (V1 ++ V2)) ((U1 ++ V1) ++ (U2 ++ V2)) := by
      have := ((Stb.refl U1).app (Stb.swap h2)).app (Stb.refl V2)
      simpa [List.append_assoc] using this
    exact e.trans (s1.app s2)

theorem srch {U V : List Pr} (hU : Le U) (hV : Le V) (s e : Nat)
    (h1 : s = 0 ∨ V.length ≤ e ∨ ∃ x y, U[s - 1]? = some x ∧ V[e]? = some y ∧ x.1 ≤ y.1)
    (h2 : e = 0 ∨ U.length ≤ s ∨ ∃ x y, U[s]? = some x ∧ V[e - 1]? = some y ∧ y.1 < x.1) :
    (∀ u ∈ U.take s, ∀ v ∈ V.drop e, u.1 ≤ v.1) ∧ (∀ u ∈ U.drop s, ∀ v ∈ V.take e, v.1 < u.1) := by
  constructor
  · intro u hu v hv
    obtain ⟨i, hi⟩ := List.getElem?_of_mem hu
    obtain ⟨j, hj⟩ := List.getElem?_of_mem hv
    have hi2 := (List.getElem?_eq_some_iff.1 hi).1
    have hj2 := (List.getElem?_eq_some_iff.1 hj).1
    rw [List.length_take] at hi2
    rw [List.length_drop] at hj2
    rw [List.getElem?_take_of_lt (by omega)] at hi
    rw [List.getElem?_drop] at hj
    rcases h1 with rfl | h1 | ⟨x, y, hx, hy, hxy⟩
    · omega
    · omega
    · have a1 := hU.at i (s - 1) u x (by omega) hi hx
      have a2 := hV.at e (e + j) y v (by omega) hy hj
      omega
  · intro u hu v hv
    obtain ⟨i, hi⟩ := List.getElem?_of_mem hu
    obtain ⟨j, hj⟩ := List.getElem?_of_mem hv
    have hi2 := (List.getElem?_eq_some_iff.1 hi).1
    have hj2 := (List.getElem?_eq_some_iff.1 hj).1
    rw [List.length_drop] at hi2
    rw [List.length_take] at hj2
    rw [List.getElem?_take_of_lt (by omega)] at hj
    rw [List.getElem?_drop] at hi
    rcases h2 with rfl | h2 | ⟨x, y, hx, hy, hxy⟩
    · omega
    · omega
    · have a1 := hU.at s (s + i) x u (by omega) hx hi
      have a2 := hV.at j (e - 1) v y (by omega) hj hy
      omega

/-! ### Blocks that are sorted -/
/-- Blocks of n pairs, the last one shorter, each sorted. -/
inductive Ch (n : Nat) : List Pr → Prop
  | last (x : List Pr) : x.length ≤ n → Le x → Ch n x
  | cons (x r : List Pr) : x.length = n → Le x → Ch n r → Ch n (x ++ r)
/-- Whole blocks of n pairs, each sorted. -/
inductive DnB (n : Nat) : List Pr → Prop
  | nil : DnB n []
  | snoc (d x : List Pr) : DnB n d → x.length = n → Le x → DnB n (d ++ x)
theorem DnB.ch {n : Nat} {d r : List Pr} (h : DnB n d) (k : Ch n r) : Ch n (d ++ r) := by
  induction h generalizing r with
  | nil => simpa using k
  | snoc d x _ hx hl ih => rw [List.append_assoc]; exact ih (Ch.cons x r hx hl k)
theorem Ch.le {n : Nat} {r : List Pr} (h : Ch n r) (hr : r.length ≤ n) : Le r := by
  cases h with
  | last _ _ hl => exact hl
  | cons x r hx hl hc =>
    have : r = [] := by
      rw [List.length_append] at hr
      exact List.eq_nil_of_length_eq_zero (by omega)
    subst this
    simpa using hl
theorem Ch.split {n : Nat} {r : List Pr} (h : Ch n r) (hr : n < r.length) : ∃ x y, r = x ++ y ∧ x.length = n ∧ Le x ∧ Ch n y := by
  cases h with
  | last _ hx _ => omega
  | cons x y hx hl hc => exact ⟨x, y, rfl, hx, hl, hc⟩
/-- Two whole blocks ahead. -/
theorem Ch.two {n : Nat} {r : List Pr} (h : Ch n r) (hn : 0 < n) (hr : 2 * n ≤ r.length) : ∃ x y z, r = x ++ y ++ z ∧ x.length = n ∧ y.length = n ∧ Le x ∧ Le y ∧ Ch n z := by
  obtain ⟨x, y, rfl, hx, hl, hc⟩ := h.split (by omega)
  rw [List.length_append] at hr
  by_cases hy : n < y.length
  · obtain ⟨y, z, rfl, hy, hm, hz⟩ := hc.split hy
    exact ⟨x, y, z, by rw [List.append_assoc], hx, hy, hl, hm, hz⟩
  · exact ⟨x, y, [], by simp, hx, by omega, hl, hc.le (by omega), Ch.last _ (Nat.zero_le _) Le.nil⟩

/-! ### The first one of each key -/
def ded (l : List Pr) : Nat → List Pr
  | 0 => []
  | n + 1 => if n = 0 ∨ (l.getD n (0, 0)).1 ≠ (l.getD (n - 1) (0, 0)).1 then ded l n ++ [l.getD n (0, 0)] else ded l n
theorem ded_len (l : List Pr) : ∀ n, (ded l n).length ≤ n
  | 0 => Nat.le_refl _
  | n + 1 => by
    have := ded_len l n
    unfold ded
    split
    · rw [List.length_append]; simp; omega
    · omega
theorem ded_other {l : List Pr} {n : Nat} {x y : Pr} (h : ¬ n = 0) (hx : l[n]? = some x) (hy : l[n - 1]? = some y) (hk : ¬ x.1 = y.1) : ded l (n + 1) = ded l n ++ [x] := by
  have e1 : l.getD n (0, 0) = x := by simp [List.getD, hx]
  have e2 : l.getD (n - 1) (0, 0) = y := by simp [List.getD, hy]
  show (if _ then _ else _) = _
  rw [e1, e2, if_pos (Or.inr hk)]
theorem ded_same {l : List Pr} {n : Nat} {x y : Pr} (h : ¬ n = 0) (hx : l[n]? = some x) (hy : l[n - 1]? = some y) (hk : x.1 = y.1) : ded l (n + 1) = ded l n := by
  have e1 : l.getD n (0, 0) = x := by simp [List.getD, hx]
  have e2 : l.getD (n - 1) (0, 0) = y := by simp [List.getD, hy]
  show (if _ then _ else _) = _
  rw [e1, e2, if_neg (fun hh => hh.elim h (fun hh => hh hk))]
theorem ded_first {l : List Pr} {x : Pr} (hx : l[0]? = some x) : ded l 1 = [x] := by
  have e1 : l.getD 0 (0, 0) = x := by simp [List.getD, hx]
  show (if _ then _ else _) = _
  rw [e1, if_pos (Or.inl rfl)]; rfl
/-- Where no two beside each other have one key, all are kept. -/
theorem ded_all {l : List Pr} : ∀ n, n ≤ l.length → (∀ i x y, i < n → 0 < i → l[i]? = some x → l[i - 1]? = some y → ¬ x.1 = y.1) → ded l n = l.take n
  | 0, _, _ => by simp [ded]
  | n + 1, hn, h => by
    have ih := ded_all n (by omega) (fun i x y hi => h i x y (by omega))
    obtain ⟨x, hx⟩ : ∃ x, l[n]? = some x := ⟨_, List.getElem?_eq_getElem (by omega)⟩
    have ht : l.take (n + 1) = l.take n ++ [x] := by rw [List.take_add_one, hx]; rfl
    rw [ht, ← ih]
    by_cases h0 : n = 0
    · subst h0; exact ded_first hx
    · obtain ⟨y, hy⟩ : ∃ y, l[n - 1]? = some y := ⟨_, List.getElem?_eq_getElem (by omega)⟩
      exact ded_other h0 hx hy (h n x y (by omega) (by omega) hx hy)
theorem ded_is {l : List Pr} (h : Le l) : ∀ n, n ≤ l.length → Srt (ded l n) ∧ (∀ z ∈ ded l n, z ∈ l.take n) ∧ ∀ k : Int, (ded l n).find? (fun z => z.1 == k) = (l.take n).find? (fun z => z.1 == k)
  | 0, _ => ⟨List.Pairwise.nil, by simp [ded], by simp [ded]⟩
  | n + 1, hn => by
    obtain ⟨i1, i2, i3⟩ := ded_is h n (by omega)
    obtain ⟨x, hx⟩ : ∃ x, l[n]? = some x := ⟨_, List.getElem?_eq_getElem (by omega)⟩
    have ht : l.take (n + 1) = l.take n ++ [x] := by rw [List.take_add_one, hx]; rfl
    by_cases h0 : n = 0
    · subst h0
      rw [ded_first hx, ht]
      exact ⟨List.pairwise_singleton _ _, by simp, by simp⟩
    · obtain ⟨y, hy⟩ : ∃ y, l[n - 1]? = some y := ⟨_, List.getElem?_eq_getElem (by omega)⟩
      by_cases hk : x.1 = y.1
      · rw [ded_same h0 hx hy hk, ht]
        refine ⟨i1, fun z hz => List.mem_append_left _ (i2 z hz), fun k => ?_⟩
        rw [i3 k, List.find?_append]
        by_cases hxk : x.1 = k
        · have hm : y ∈ l.take n := List.mem_of_getElem? (i := n - 1) (by rw [List.getElem?_take_of_lt (by omega)]; exact hy)
          have : ((l.take n).find? (fun z => z.1 == k)).isSome = true := List.find?_isSome.2 ⟨y, hm, by simp; omega⟩
          obtain ⟨z, hz⟩ := Option.isSome_iff_exists.1 this
          rw [hz]; rfl
        · have : [x].find? (fun z => z.1 == k) = none := by simp [hxk]
          rw [this]; simp
      · rw [ded_other h0 hx hy hk, ht]
        refine ⟨?_, fun z hz => ?_, fun k => ?_⟩
        · unfold Srt
          rw [List.pairwise_append]
          refine ⟨i1, List.pairwise_singleton _ _, fun a ha b hb => ?_⟩
          simp at hb
          subst hb
          obtain ⟨i, hi⟩ := List.getElem?_of_mem (i2 a ha)
          have hi2 := (List.getElem?_eq_some_iff.1 hi).1
          rw [List.length_take] at hi2
          rw [List.getElem?_take_of_lt (by omega)] at hi
          have a1 := h.at i (n - 1) a y (by omega) hi hy
          have a2 := h.at (n - 1) n y b (by omega) hy hx
          omega
        · rcases List.mem_append.1 hz with hz | hz
          · exact List.mem_append_left _ (i2 z hz)
          · exact List.mem_append_right _ hz
        · rw [List.find?_append, List.find?_append, i3 k]

theorem find_srt {l : List Pr} (h : Srt l) (k : Int) (z : Pr) : l.find? (fun y => y.1 == k) = some z ↔ z ∈ l ∧ z.1 = k := by
  induction l with
  | nil => simp
  | cons a l ih =>
    have h2 := List.pairwise_cons.1 h
    rw [List.find?_cons]
    by_cases ha : a.1 = k
    · have e : (a.1 == k) = true := by simp [ha]
      rw [e]
      dsimp only
      constructor
      · intro he; cases he; exact ⟨List.mem_cons_self, ha⟩
      · rintro ⟨hz, hzk⟩
        rcases List.mem_cons.1 hz with rfl | hz
        · rfl
        · have := h2.1 z hz; omega
    · have e : (a.1 == k) = false := by simp [ha]
      rw [e]
      dsimp only
      rw [ih h2.2]
      constructor
      · rintro ⟨hz, hzk⟩; exact ⟨List.mem_cons_of_mem _ hz, hzk⟩
      · rintro ⟨hz, hzk⟩
        rcases List.mem_cons.1 hz with rfl | hz
        · exact absurd hzk ha
        · exact ⟨hz, hzk⟩
theorem srt_ext {a b : List Pr} (ha : Srt a) (hb : Srt b) (h : ∀ z, z ∈ a ↔ z ∈ b) : a = b := by
  induction a generalizing b with
  | nil =>
    cases b with
    | nil => rfl
    | cons y b => exact absurd ((h y).2 List.mem_cons_self) (by simp)
  | cons x a ih =>
    cases b with
    | nil => exact absurd ((h x).1 List.mem_cons_self) (by simp)
    | cons y b =>
      have ha2 := List.pairwise_cons.1 ha
      have hb2 := List.pairwise_cons.1 hb
      have exy : x = y := by
        rcases List.mem_cons.1 ((h x).1 List.mem_cons_self) with e | e
        · exact e
        · rcases List.mem_cons.1 ((h y).2 List.mem_cons_self) with e' | e'
          · exact e'.symm
          · have := hb2.1 x e; have := ha2.1 y e'; omega
      subst exy
      rw [ih ha2.2 hb2.2 (fun z => ?_)]
      constructor
      · intro hz
        rcases List.mem_cons.1 ((h z).1 (List.mem_cons_of_mem _ hz)) with e | e
        · subst e; have := ha2.1 z hz; omega
        · exact e
      · intro hz
        rcases List.mem_cons.1 ((h z).2 (List.mem_cons_of_mem _ hz)) with e | e
        · subst e; have := hb2.1 z hz; omega
        · exact e
theorem srt_find {a b : List Pr} (ha : Srt a) (hb : Srt b) (h : ∀ k : Int, a.find? (fun z => z.1 == k) = b.find? (fun z => z.1 == k)) : a = b :=
  srt_ext ha hb (fun z => by
    have e1 := find_srt ha z.1 z
    have e2 := find_srt hb z.1 z
    rw [h z.1] at e1
    constructor
    · intro hz; exact (e2.1 (e1.2 ⟨hz, rfl⟩)).1
    · intro hz; exact (e1.1 (e2.2 ⟨hz, rfl⟩)).1)
theorem Stb.find {a b : List Pr} (h : Stb a b) (k : Int) : a.find? (fun z => z.1 == k) = b.find? (fun z => z.1 == k) := by
  rw [← List.head?_filter, ← List.head?_filter, h k]

/-! ### Swaps -/
def swp (l : List Pr) (i j : Nat) : List Pr := (l.set i (l.getD j (0, 0))).set j (l.getD i (0, 0))
theorem swp_len (l : List Pr) (i j : Nat) : (swp l i j).length = l.length := by simp [swp]
theorem getD_app (A : List Pr) (x : Pr) (B : List Pr) : (A ++ x :: B).getD A.length (0, 0) = x := by simp [List.getD]
theorem set_app (A : List Pr) (x y : Pr) (B : List Pr) : (A ++ x :: B).set A.length y = A ++ y :: B := by simp
theorem swp_app (A : List Pr) (x : Pr) (M : List Pr) (y : Pr) (B : List Pr) (i j : Nat) (hi : i = A.length) (hj : j = A.length + 1 + M.length) : swp (A ++ x :: (M ++ y :: B)) i j = A ++ y :: (M ++ x :: B) := by
  have e1 : A ++ x :: (M ++ y :: B) = (A ++ x :: M) ++ y :: B := by simp
  have e2 : A ++ y :: (M ++ y :: B) = (A ++ y :: M) ++ y :: B := by simp
  have h1 : (A ++ x :: M).length = j := by rw [hj]; simp; omega
  have h2 : (A ++ y :: M).length = j := by rw [hj]; simp; omega
  have g1 : (A ++ x :: (M ++ y :: B)).getD j (0, 0) = y := by rw [e1, ← h1]; exact getD_app _ _ _
  have g2 : (A ++ x :: (M ++ y :: B)).getD i (0, 0) = x := by rw [hi]; exact getD_app _ _ _
  unfold swp
  rw [g1, g2, hi, set_app, e2, ← h2, set_app]
  simp
theorem swp_back (A : List Pr) (x y : Pr) (B : List Pr) (i j : Nat) (hi : i = A.length + 1) (hj : j = A.length) : swp (A ++ x :: y :: B) i j = A ++ y :: x :: B := by
  have e1 : A ++ x :: y :: B = (A ++ [x]) ++ y :: B := by simp
  have e3 : ∀ z : Pr, (A ++ [x]) ++ z :: B = A ++ x :: (z :: B) := fun z => by simp
  have h1 : (A ++ [x]).length = i := by rw [hi]; simp
  have g1 : (A ++ x :: y :: B).getD i (0, 0) = y := by rw [e1, ← h1]; exact getD_app _ _ _
  have g2 : (A ++ x :: y :: B).getD j (0, 0) = x := by rw [hj]; exact getD_app _ _ _
  unfold swp
  rw [g1, g2, e1, ← h1, set_app, e3, hj, set_app]
/-- n swaps, side by side. -/
def swR (l : List Pr) (a b : Nat) : Nat → List Pr
  | 0 => l
  | n + 1 => swp (swR l a b n) (a + n) (b + n)
theorem swR_len (l : List Pr) (a b : Nat) : ∀ n, (swR l a b n).length = l.length
  | 0 => rfl
  | n + 1 => by show (swp _ _ _).length = _; rw [swp_len, swR_len l a b n]
theorem drop_cons {l : List Pr} {i : Nat} (h : i < l.length) : ∃ x, l[i]? = some x ∧ l.drop i = x :: l.drop (i + 1) ∧ l.take (i + 1) = l.take i ++ [x] :=
  ⟨l[i], List.getElem?_eq_getElem h, List.drop_eq_getElem_cons h, by rw [List.take_add_one, List.getElem?_eq_getElem h]; rfl⟩
theorem swR_app (A P M Q B : List Pr) (n a b : Nat) (hP : P.length = n) (hQ : Q.length = n) (ha : a = A.length) (hb : b = A.length + n + M.length) :
    ∀ i, i ≤ n → swR (A ++ P ++ M ++ Q ++ B) a b i = A ++ (Q.take i ++ P.drop i) ++ M ++ (P.take i ++ Q.drop i) ++ B
  | 0, _ => by simp [swR]
  | i + 1, hi => by
    obtain ⟨p, _, p1, p2⟩ := drop_cons (l := P) (i := i) (by omega)
    obtain ⟨q, _, q1, q2⟩ := drop_cons (l := Q) (i := i) (by omega)
    have hs := swp_app (A ++ Q.take i) p (P.drop (i + 1) ++ M ++ P.take i) q (Q.drop (i + 1) ++ B) (a + i) (b + i)
      (by rw [List.length_append, List.length_take]; omega) (by rw [hb]; simp only [List.length_append, List.length_take, List.length_drop]; omega)
    show swp (swR _ a b i) (a + i) (b + i) = _
    rw [swR_app A P M Q B n a b hP hQ ha hb i (by omega), p1, q1, p2, q2]
    simp only [List.append_assoc, List.cons_append, List.nil_append] at hs ⊢
    exact hs
theorem swR_all (A P M Q B : List Pr) (n a b : Nat) (hP : P.length = n) (hQ : Q.length = n) (ha : a = A.length) (hb : b = A.length + n + M.length) :
    swR (A ++ P ++ M ++ Q ++ B) a b n = A ++ Q ++ M ++ P ++ B := by
  rw [swR_app A P M Q B n a b hP hQ ha hb n (Nat.le_refl _)]
  rw [List.take_of_length_le (by omega), List.take_of_length_le (by omega), List.drop_eq_nil_of_le (by omega), List.drop_eq_nil_of_le (by omega)]
  simp
theorem part_at (l : List Pr) (n : Nat) (h : n ≤ l.length) : ∃ x y, l = x ++ y ∧ x.length = n ∧ y.length = l.length - n :=
  ⟨l.take n, l.drop n, (List.take_append_drop n l).symm, by rw [List.length_take]; omega, List.length_drop ..⟩

/-- What is left of a rotation: P and Q, side by side at m, are to change places. -/
structure Rot (T : List Pr) (m : Nat) (cur : List Pr) (i j : Nat) : Prop where
  h : ∃ A P Q B, cur = A ++ P ++ Q ++ B ∧ P.length = i ∧ Q.length = j ∧ A.length + i = m ∧ A ++ Q ++ P ++ B = T
theorem Rot.start (A U V B : List Pr) : Rot (A ++ V ++ U ++ B) (A.length + U.length) (A ++ U ++ V ++ B) U.length V.length := ⟨A, U, V, B, rfl, rfl, rfl, rfl, rfl⟩
theorem Rot.bounds {T cur : List Pr} {m i j : Nat} (h : Rot T m cur i j) : i ≤ m ∧ m + j ≤ cur.length := by
  obtain ⟨A, P, Q, B, rfl, hP, hQ, hm, _⟩ := h.h
  simp only [List.length_append]
  omega
theorem Rot.right {T cur : List Pr} {m i j : Nat} (h : Rot T m cur i j) (hij : j < i) : Rot T m (swR cur (m - i) m j) (i - j) j := by
  obtain ⟨A, P, Q, B, rfl, hP, hQ, hm, hT⟩ := h.h
  obtain ⟨P1, P2, rfl, h1, h2⟩ := part_at P j (by omega)
  have e := swR_all A P1 P2 Q B j (m - i) m h1 hQ (by omega) (by rw [List.length_append] at hP; omega)
  rw [show A ++ (P1 ++ P2) ++ Q ++ B = A ++ P1 ++ P2 ++ Q ++ B by simp [List.append_assoc], e]
  refine ⟨A ++ Q, P2, P1, B, rfl, by rw [List.length_append] at hP; omega, h1, by rw [List.length_append] at hP ⊢; omega, ?_⟩
  rw [← hT]; simp [List.append_assoc]
theorem Rot.left {T cur : List Pr} {m i j : Nat} (h : Rot T m cur i j) (hij : i < j) : Rot T m (swR cur (m - i) (m + j - i) i) i (j - i) := by
  obtain ⟨A, P, Q, B, rfl, hP, hQ, hm, hT⟩ := h.h
  obtain ⟨Q1, Q2, rfl, h1, h2⟩ := part_at Q (j - i) (by omega)
  have e := swR_all A P Q1 Q2 B i (m - i) (m + j - i) hP (by rw [List.length_append] at hQ; omega) (by omega) (by omega)
  rw [show A ++ P ++ (Q1 ++ Q2) ++ B = A ++ P ++ Q1 ++ Q2 ++ B by simp [List.append_assoc], e]
  refine ⟨A, Q2, Q1, P ++ B, by simp [List.append_assoc], by rw [List.length_append] at hQ; omega, h1, by omega, ?_⟩
  rw [← hT]; simp [List.append_assoc]
theorem Rot.done {T cur : List Pr} {m i : Nat} (h : Rot T m cur i i) : swR cur (m - i) m i = T := by
  obtain ⟨A, P, Q, B, rfl, hP, hQ, hm, hT⟩ := h.h
  have e := swR_all A P [] Q B i (m - i) m hP hQ (by omega) (by simp; omega)
  rw [show A ++ P ++ Q ++ B = A ++ P ++ [] ++ Q ++ B by simp, e, ← hT]
  simp

/-- A pair goes up, swap by swap. -/
def upR (l : List Pr) (a : Nat) : Nat → List Pr
  | 0 => l
  | n + 1 => swp (upR l a n) (a + n) (a + n + 1)
theorem upR_len (l : List Pr) (a : Nat) : ∀ n, (upR l a n).length = l.length
  | 0 => rfl
  | n + 1 => by show (swp _ _ _).length = _; rw [swp_len, upR_len l a n]
theorem upR_app (A : List Pr) (u : Pr) (V B : List Pr) (a : Nat) (ha : a = A.length) : ∀ i, i ≤ V.length → upR (A ++ u :: (V ++ B)) a i = A ++ (V.take i ++ u :: (V.drop i ++ B))
  | 0, _ => by simp [upR]
  | i + 1, hi => by
    obtain ⟨v, _, v1, v2⟩ := drop_cons (l := V) (i := i) (by omega)
    have hs := swp_app (A ++ V.take i) u [] v (V.drop (i + 1) ++ B) (a + i) (a + i + 1)
      (by rw [List.length_append, List.length_take]; omega) (by rw [List.length_append, List.length_take, List.length_nil]; omega)
    show swp (upR _ a i) (a + i) (a + i + 1) = _
    rw [upR_app A u V B a ha i (by omega), v1, v2]
    simp only [List.append_assoc, List.cons_append, List.nil_append] at hs ⊢
    exact hs
theorem upR_all (A : List Pr) (u : Pr) (V B : List Pr) (a n : Nat) (ha : a = A.length) (hn : n = V.length) : upR (A ++ u :: (V ++ B)) a n = A ++ (V ++ u :: B) := by
  rw [upR_app A u V B a ha n (by omega), List.take_of_length_le (by omega), List.drop_eq_nil_of_le (by omega)]
  simp
/-- A pair goes down, swap by swap. -/
def dnR (l : List Pr) (m : Nat) : Nat → List Pr
  | 0 => l
  | n + 1 => swp (dnR l m n) (m - n) (m - n - 1)
theorem dnR_len (l : List Pr) (m : Nat) : ∀ n, (dnR l m n).length = l.length
  | 0 => rfl
  | n + 1 => by show (swp _ _ _).length = _; rw [swp_len, dnR_len l m n]
theorem dnR_app (A U : List Pr) (v : Pr) (B : List Pr) (m : Nat) (hm : m = A.length + U.length) : ∀ i, i ≤ U.length → dnR (A ++ (U ++ v :: B)) m i = A ++ (U.take (U.length - i) ++ v :: (U.drop (U.length - i) ++ B))
  | 0, _ => by simp [dnR]
  | i + 1, hi => by
    obtain ⟨u, _, u1, u2⟩ := drop_cons (l := U) (i := U.length - (i + 1)) (by omega)
    rw [show U.length - (i + 1) + 1 = U.length - i by omega] at u1 u2
    have hs := swp_back (A ++ U.take (U.length - (i + 1))) u v (U.drop (U.length - i) ++ B) (m - i) (m - i - 1)
      (by rw [List.length_append, List.length_take]; omega) (by rw [List.length_append, List.length_take]; omega)
    show swp (dnR _ m i) (m - i) (m - i - 1) = _
    rw [dnR_app A U v B m hm i (by omega), u2, u1]
    simp only [List.append_assoc, List.cons_append, List.nil_append] at hs ⊢
    exact hs
theorem dnR_some (A U1 U2 : List Pr) (v : Pr) (B : List Pr) (m n : Nat) (hm : m = A.length + U1.length + U2.length) (hn : n = U2.length) : dnR (A ++ ((U1 ++ U2) ++ v :: B)) m n = A ++ (U1 ++ v :: (U2 ++ B)) := by
  have hl : (U1 ++ U2).length - n = U1.length := by rw [List.length_append]; omega
  rw [dnR_app A (U1 ++ U2) v B m (by rw [List.length_append]; omega) n (by rw [List.length_append]; omega), hl]
  simp

/-- Both ends change places, from the outside in. -/
def rvR (l : List Pr) : Nat → List Pr
  | 0 => l
  | n + 1 => swp (rvR l n) n (l.length - 1 - n)
theorem rvR_len (l : List Pr) : ∀ n, (rvR l n).length = l.length
  | 0 => rfl
  | n + 1 => by show (swp _ _ _).length = _; rw [swp_len, rvR_len l n]
theorem rvR_app (l : List Pr) : ∀ n, 2 * n ≤ l.length → rvR l n = (l.drop (l.length - n)).reverse ++ (l.drop n).take (l.length - 2 * n) ++ (l.take n).reverse
  | 0, _ => by simp [rvR]
  | n + 1, hn => by
    show swp (rvR l n) n (l.length - 1 - n) = _
    rw [rvR_app l n (by omega)]
    obtain ⟨x, _, x1, x2⟩ := drop_cons (l := l) (i := n) (by omega)
    obtain ⟨y, _, y1, y2⟩ := drop_cons (l := l) (i := l.length - (n + 1)) (by omega)
    rw [show l.length - (n + 1) + 1 = l.length - n by omega] at y1
    obtain ⟨M, hM⟩ : ∃ M, (l.drop (n + 1)).take (l.length - 2 * (n + 1)) = M := ⟨_, rfl⟩
    have hMl : M.length = l.length - 2 * (n + 1) := by rw [← hM, List.length_take, List.length_drop]; omega
    have e : (l.drop n).take (l.length - 2 * n) = x :: (M ++ [y]) := by
      rw [x1, show l.length - 2 * n = (l.length - 2 * (n + 1) + 1) + 1 by omega, List.take_succ_cons, List.take_add_one, hM, List.getElem?_drop, show n + 1 + (l.length - 2 * (n + 1)) = l.length - (n + 1) by omega]
      have := List.getElem?_eq_getElem (l := l) (i := l.length - (n + 1)) (by omega)
      have h2 := List.drop_eq_getElem_cons (l := l) (i := l.length - (n + 1)) (by omega)
      rw [y1] at h2
      have h3 := (List.cons.inj h2).1
      rw [this, ← h3]
      rfl
    rw [e, y1, x2, hM]
    have hs := swp_app ((l.drop (l.length - n)).reverse) x M y ((l.take n).reverse) n (l.length - 1 - n) (by simp; omega) (by simp; omega)
    simp only [List.append_assoc, List.cons_append, List.nil_append, List.reverse_append, List.reverse_cons, List.reverse_nil] at hs ⊢
    exact hs
theorem rvR_all (l : List Pr) (n : Nat) (h1 : 2 * n ≤ l.length) (h2 : l.length ≤ 2 * n + 1) : rvR l n = l.reverse := by
  rw [rvR_app l n h1]
  have e : l = l.take n ++ ((l.drop n).take (l.length - 2 * n) ++ l.drop (l.length - n)) := by
    have a1 := List.take_append_drop n l
    have a2 := List.take_append_drop (l.length - 2 * n) (l.drop n)
    rw [List.drop_drop, show n + (l.length - 2 * n) = l.length - n by omega] at a2
    rw [a2, a1]
  obtain ⟨M, hM⟩ : ∃ M, (l.drop n).take (l.length - 2 * n) = M := ⟨_, rfl⟩
  have hl : M.length ≤ 1 := by rw [← hM, List.length_take]; omega
  have hr : M.reverse = M := by
    match M, hl with
    | [], _ => rfl
    | [x], _ => rfl
    | x :: y :: r, h => simp at h
  rw [hM] at e ⊢
  generalize l.take n = a at e ⊢
  generalize l.drop (l.length - n) = c at e ⊢
  rw [e]
  simp [hr]
end Go.Proofs.Ytadfnbmogobopaa
