/- Contracts of package part, over the treap of sorted pairs: At, Middle, Half. -/
import Derived.Test.YtbmlpdkbiipcmaaPtG
namespace Go.Proofs.Ytbmlpdkbiipcmaa
open Go.RowKit
set_option linter.all false

section
variable {w0 w W W' : World} {p : Nat} {F : Nat → Prop} {room st : Int} {L : List It} {t k : Int} {l : List Pr}

theorem PtSays.since {e : Ending} (m : PtSays W p F room st L k l e W') (b : Below w.heap.size w W) : PtSays w p F room st L k l e W' := by
  obtain ⟨x, y, er, M, he, hg, hc⟩ := m
  exact ⟨x, y, er, M, he, hg.since b (fun k hk => hk), hc⟩

set_option maxRecDepth 100000 in
set_option maxHeartbeats 3200000 in
theorem pat_any (hA : Arena w p F room st L) (T : Tree L t l) (hs : Srt l) (hl : l.length ≤ 1000) :
    Calls Try.prog 26 #[.pointer (some ⟨p, 0, none⟩), .int .i64 t, .int .i64 k] w (PtSays w p F room st L k l) := by
  have ct := isTreap_is hA t true ⟨fun _ => (T.hung (by omega)).1.ok, fun _ => rfl⟩
  have cr := fun W (hW : Arena W p F room st L) => wpart_any p room st k l W t L F hs hl T hW
  have HA := Lib.hid hA
  clear hA T hs hl
  go_enter Try.func26, Try.ntmps26
  go_wp2_with (first
    | (go_at_call 32; ((with_reducible refine ct.mono ?_); clear ct; rintro e w1 ⟨rfl, hb⟩))
    | (go_at_call 44; ((with_reducible refine (cr _ (HA.out.below hb)).mono ?_); clear cr; rintro e w2 ⟨x, y, er, M, rfl, hg, hc⟩; have HG := Lib.hid (hg.since hb (fun k hk => hk)); have HC := Lib.hid hc; clear hg hc)))
  refine bodyPost_ret (v := .tuple #[.int .i64 x, .int .i64 y, .int .i64 er]) (by simp [results, Try.results26, go_sem]) rfl ?_
  exact ⟨x, y, er, M, rfl, HG.out, HC.out⟩
/-- At of what is no treap, or without an arena. -/
theorem pat_arg (q : Option Addr) (t k : Int) (w : World)
    (ct : ∀ W, Below w.heap.size w W → Calls Try.prog 32 #[.pointer q, .int .i64 t] W fun e w' => e = .returned (.bool false) ∧ Below W.heap.size W w') :
    Calls Try.prog 26 #[.pointer q, .int .i64 t, .int .i64 k] w fun e w' => e = .returned (.tuple #[.int .i64 0, .int .i64 0, .int .i64 1]) ∧ Below w.heap.size w w' := by
  go_enter Try.func26, Try.ntmps26
  go_wp2_with (go_at_call 32; ((with_reducible refine (ct _ (Below.refl _ _)).mono ?_); clear ct; rintro e w1 ⟨rfl, hb⟩))
  refine bodyPost_ret (v := .tuple #[.int .i64 0, .int .i64 0, .int .i64 1]) (by simp [results, Try.results26, go_sem]) rfl ?_
  exact ⟨rfl, hb⟩
theorem pat_nil (t k : Int) (w : World) :
    Calls Try.prog 26 #[.pointer none, .int .i64 t, .int .i64 k] w fun e w' => e = .returned (.tuple #[.int .i64 0, .int .i64 0, .int .i64 1]) ∧ Below w.heap.size w w' :=
  pat_arg none t k w (fun W _ => isTreap_nil W t)
theorem pat_no (hA : Arena w p F room st L) (t k : Int) (ht : ¬ HungOk L t) :
    Calls Try.prog 26 #[.pointer (some ⟨p, 0, none⟩), .int .i64 t, .int .i64 k] w fun e w' => e = .returned (.tuple #[.int .i64 0, .int .i64 0, .int .i64 1]) ∧ Below w.heap.size w w' :=
  pat_arg _ t k w (fun W hb => isTreap_is (hA.below hb) t false ⟨fun h => Bool.noConfusion h, fun h => absurd h ht⟩)

/-! ### Middle -/

theorem pmid_few (q : Option Addr) (t n : Int) (w : World) (hn : n < 2)
    (cs : Calls Try.prog 61 #[.pointer q, .int .i64 t] w fun e w' => e = .returned (.int .i64 n) ∧ Below w.heap.size w w') :
    Calls Try.prog 47 #[.pointer q, .int .i64 t] w fun e w' => e = .returned (.tuple #[.int .i64 0, .bool false]) ∧ Below w.heap.size w w' := by
  have hd : decide (n < 2) = true := decide_eq_true hn
  clear hn
  go_enter Try.func47, Try.ntmps47
  go_wp2_with (go_at_call 61; ((with_reducible refine cs.mono ?_); clear cs; rintro e w1 ⟨rfl, hb⟩))
  refine bodyPost_ret (v := .tuple #[.int .i64 0, .bool false]) (by simp [results, Try.results47, go_sem]) rfl ?_
  exact ⟨rfl, hb⟩
set_option maxRecDepth 100000 in
set_option maxHeartbeats 3200000 in
theorem pmid_more (q : Option Addr) (t n k v : Int) (is : Bool) (w : World) (h2 : 2 ≤ n) (hn : n ≤ 1000)
    (cs : Calls Try.prog 61 #[.pointer q, .int .i64 t] w fun e w' => e = .returned (.int .i64 n) ∧ Below w.heap.size w w')
    (cn : ∀ W x, x = .int .i64 (n / 2) → Below w.heap.size w W → Calls Try.prog 62 #[.pointer q, .int .i64 t, x] W fun e w' => e = .returned (.tuple #[.agg #[.int .i64 k, .int .i64 v], .bool is]) ∧ Below W.heap.size W w') :
    Calls Try.prog 47 #[.pointer q, .int .i64 t] w fun e w' => e = .returned (.tuple #[.int .i64 k, .bool is]) ∧ Below w.heap.size w w' := by
  have hd : decide (n < 2) = false := decide_eq_false (by omega)
  have h0 : 0 ≤ n := by omega
  go_enter Try.func47, Try.ntmps47
  go_wp2_with (first
    | (go_at_call 61; ((with_reducible refine cs.mono ?_); clear cs; rintro e w1 ⟨rfl, hb⟩))
    | (go_at_call 62; ((with_reducible refine (cn _ _ (by go_num) hb).mono ?_); clear cn; rintro e w2 ⟨rfl, hb2⟩)))
  refine bodyPost_ret (v := .tuple #[.int .i64 k, .bool is]) (by simp [results, Try.results47, go_sem]) rfl ?_
  exact ⟨rfl, (hb.trans (hb2.mono hb.size)).alloc (by have := hb.size; have := hb2.size; omega) _⟩

/-- The pair in the middle of a row. -/
theorem mid_lt {l : List Pr} (h2 : 2 ≤ l.length) : l.length / 2 < l.length := by omega
theorem mid_any (hA : Arena w p F room st L) (T : Tree L t l) (hl : l.length ≤ 1000) {q : Pr} (h2 : 2 ≤ l.length) (hq : l[l.length / 2]? = some q) :
    Calls Try.prog 47 #[.pointer (some ⟨p, 0, none⟩), .int .i64 t] w fun e w' => e = .returned (.tuple #[.int .i64 q.1, .bool true]) ∧ Below w.heap.size w w' := by
  have ha : atL l ((l.length : Int) / 2) = some q := by
    unfold atL
    rw [if_neg (by omega), show ((l.length : Int) / 2).toNat = l.length / 2 by omega, hq]
  refine pmid_more _ t l.length q.1 q.2 true w (by omega) (by omega) (size_any t _ w (Gets.ofArena hA) (by rw [T.size.1])) (fun W x hx hb => ?_)
  subst hx
  exact lnth_any t _ W (Gets.ofArena (hA.below hb)) q.1 q.2 true (by rw [nthL_tree T (by omega)]; unfold atL at ha; rw [ha]; rfl) (by rw [nthL_tree T (by omega)]; unfold atL at ha; rw [ha]; rfl)
theorem mid_none (hA : Arena w p F room st L) (T : Tree L t l) (h2 : l.length < 2) :
    Calls Try.prog 47 #[.pointer (some ⟨p, 0, none⟩), .int .i64 t] w fun e w' => e = .returned (.tuple #[.int .i64 0, .bool false]) ∧ Below w.heap.size w w' :=
  pmid_few _ t l.length w (by omega) (size_any t _ w (Gets.ofArena hA) (by rw [T.size.1]))

/-! ### Half -/

theorem phalf_arg (q : Option Addr) (t : Int) (w : World)
    (ct : Calls Try.prog 32 #[.pointer q, .int .i64 t] w fun e w' => e = .returned (.bool false) ∧ Below w.heap.size w w') :
    Calls Try.prog 28 #[.pointer q, .int .i64 t] w fun e w' => e = .returned (.tuple #[.int .i64 0, .int .i64 0, .int .i64 0, .int .i64 1]) ∧ Below w.heap.size w w' := by
  go_enter Try.func28, Try.ntmps28
  go_wp2_with (go_at_call 32; ((with_reducible refine ct.mono ?_); clear ct; rintro e w1 ⟨rfl, hb⟩))
  refine bodyPost_ret (v := .tuple #[.int .i64 0, .int .i64 0, .int .i64 0, .int .i64 1]) (by simp [results, Try.results28, go_sem]) rfl ?_
  exact ⟨rfl, hb⟩
theorem phalf_no (hA : Arena w p F room st L) (t : Int) (ht : ¬ HungOk L t) :
    Calls Try.prog 28 #[.pointer (some ⟨p, 0, none⟩), .int .i64 t] w fun e w' => e = .returned (.tuple #[.int .i64 0, .int .i64 0, .int .i64 0, .int .i64 1]) ∧ Below w.heap.size w w' :=
  phalf_arg _ t w (isTreap_is hA t false ⟨fun h => Bool.noConfusion h, fun h => absurd h ht⟩)
theorem phalf_few (q : Option Addr) (t k : Int) (w : World)
    (ct : Calls Try.prog 32 #[.pointer q, .int .i64 t] w fun e w' => e = .returned (.bool true) ∧ Below w.heap.size w w')
    (cm : ∀ W, Below w.heap.size w W → Calls Try.prog 47 #[.pointer q, .int .i64 t] W fun e w' => e = .returned (.tuple #[.int .i64 k, .bool false]) ∧ Below W.heap.size W w') :
    Calls Try.prog 28 #[.pointer q, .int .i64 t] w fun e w' => e = .returned (.tuple #[.int .i64 0, .int .i64 0, .int .i64 0, .int .i64 3]) ∧ Below w.heap.size w w' := by
  go_enter Try.func28, Try.ntmps28
  go_wp2_with (first
    | (go_at_call 32; ((with_reducible refine ct.mono ?_); clear ct; rintro e w1 ⟨rfl, hb⟩))
    | (go_at_call 47; ((with_reducible refine (cm _ hb).mono ?_); clear cm; rintro e w2 ⟨rfl, hb2⟩)))
  refine bodyPost_ret (v := .tuple #[.int .i64 0, .int .i64 0, .int .i64 0, .int .i64 3]) (by simp [results, Try.results28, go_sem]) rfl ?_
  exact ⟨rfl, hb.trans (hb2.mono hb.size)⟩
theorem half_none (hA : Arena w p F room st L) (T : Tree L t l) (h2 : l.length < 2) :
    Calls Try.prog 28 #[.pointer (some ⟨p, 0, none⟩), .int .i64 t] w fun e w' => e = .returned (.tuple #[.int .i64 0, .int .i64 0, .int .i64 0, .int .i64 3]) ∧ Below w.heap.size w w' :=
  phalf_few _ t 0 w (isTreap_is hA t true ⟨fun _ => (T.hung (by omega)).1.ok, fun _ => rfl⟩) (fun W hb => mid_none (hA.below hb) T h2)

/-- What Half tells of two or more: the middle key, and both parts; or no room. -/
def HalfSays (w : World) (p : Nat) (F : Nat → Prop) (room st : Int) (L : List It) (k : Int) (l : List Pr) (e : Ending) (w' : World) : Prop :=
  ∃ (x y er : Int) (M : List It), Grew w p F room st (L ++ M) w' ∧
    ((e = .returned (.tuple #[.int .i64 k, .int .i64 x, .int .i64 y, .int .i64 0]) ∧ M.length ≤ hi l ∧ Tree (L ++ M) x (loL l k) ∧ Tree (L ++ M) y (geL l k)) ∨ (e = .returned (.tuple #[.int .i64 0, .int .i64 0, .int .i64 0, .int .i64 2]) ∧ room = ((L ++ M).length : Nat) ∧ M.length + 1 ≤ hi l))
set_option maxRecDepth 100000 in
set_option maxHeartbeats 3200000 in
theorem half_any (hA : Arena w p F room st L) (T : Tree L t l) (hs : Srt l) (hl : l.length ≤ 1000) {q : Pr} (h2 : 2 ≤ l.length) (hq : l[l.length / 2]? = some q) :
    Calls Try.prog 28 #[.pointer (some ⟨p, 0, none⟩), .int .i64 t] w (HalfSays w p F room st L q.1 l) := by
  have ct := isTreap_is hA t true ⟨fun _ => (T.hung (by omega)).1.ok, fun _ => rfl⟩
  have cm := fun W (hb : Below w.heap.size w W) => mid_any (hA.below hb) T hl h2 hq
  have cp := fun W (hb : Below w.heap.size w W) => pat_any (k := q.1) (hA.below hb) T hs hl
  obtain ⟨k, v⟩ := q
  dsimp only at cm cp ⊢
  clear hA T hs hl h2 hq
  go_enter Try.func28, Try.ntmps28
  go_wp2_with (first
    | (go_at_call 32; ((with_reducible refine ct.mono ?_); clear ct; rintro e w1 ⟨rfl, hb⟩))
    | (go_at_call 47; ((with_reducible refine (cm _ hb).mono ?_); clear cm; rintro e w2 ⟨rfl, hb2⟩; have hb3 := hb.trans (hb2.mono hb.size); clear hb hb2)))
  refine (cp _ hb3).mono ?_
  clear cp
  rintro e w3 m
  obtain ⟨x, y, er, M, rfl, hg, hc⟩ := m.since hb3
  have HG := Lib.hid hg
  clear hg m
  rcases hc with ⟨rfl, hc⟩ | ⟨rfl, hc1, hc2, rfl, rfl⟩
  · have HC := Lib.hid hc
    clear hc
    go_wp2_with (fail)
    refine bodyPost_ret (v := .tuple #[.int .i64 k, .int .i64 x, .int .i64 y, .int .i64 0]) (by simp [results, Try.results28, go_sem]) rfl ?_
    exact ⟨x, y, 0, M, HG.out, .inl ⟨rfl, HC.out⟩⟩
  · have HC := Lib.hid (And.intro hc1 hc2)
    clear hc1 hc2
    go_wp2_with (fail)
    refine bodyPost_ret (v := .tuple #[.int .i64 0, .int .i64 0, .int .i64 0, .int .i64 2]) (by simp [results, Try.results28, go_sem]) rfl ?_
    exact ⟨0, 0, 2, M, HG.out, .inr ⟨rfl, HC.out⟩⟩

/-! ### In an arena that a law holds -/

theorem part_ok (h : Held w0 w p room st L) (T : Tree L t l) (hs : Srt l) (hl : l.length ≤ 1000) (hr : ((L.length + hi l : Nat) : Int) ≤ room) (k : Int) :
    Calls Try.prog 26 #[.pointer (some ⟨p, 0, none⟩), .int .i64 t, .int .i64 k] w fun e w' =>
      ∃ (x y : Int) (M : List It), e = .returned (.tuple #[.int .i64 x, .int .i64 y, .int .i64 0]) ∧ Held w0 w' p room st (L ++ M) ∧ M.length ≤ hi l ∧ Tree (L ++ M) x (loL l k) ∧ Tree (L ++ M) y (geL l k) := by
  refine (pat_any h.a T hs hl).mono ?_
  rintro e w' ⟨x, y, er, M, rfl, hg, ⟨rfl, hc⟩ | ⟨rfl, hr2, hM, _⟩⟩
  · exact ⟨x, y, M, rfl, h.grew hg (fun _ hk => hk), hc⟩
  · exfalso; rw [List.length_append] at hr2; omega
theorem half_ok (h : Held w0 w p room st L) (T : Tree L t l) (hs : Srt l) (hl : l.length ≤ 1000) (hr : ((L.length + hi l : Nat) : Int) ≤ room) {k v : Int} (h2 : 2 ≤ l.length) (hq : l[l.length / 2]? = some (k, v)) :
    Calls Try.prog 28 #[.pointer (some ⟨p, 0, none⟩), .int .i64 t] w fun e w' =>
      ∃ (x y : Int) (M : List It), e = .returned (.tuple #[.int .i64 k, .int .i64 x, .int .i64 y, .int .i64 0]) ∧ Held w0 w' p room st (L ++ M) ∧ M.length ≤ hi l ∧ Tree (L ++ M) x (loL l k) ∧ Tree (L ++ M) y (geL l k) := by
  refine (half_any h.a T hs hl h2 hq).mono ?_
  rintro e w' ⟨x, y, er, M, hg, ⟨rfl, hc⟩ | ⟨rfl, hr2, hM⟩⟩
  · exact ⟨x, y, M, rfl, h.grew hg (fun _ hk => hk), hc⟩
  · exfalso; rw [List.length_append] at hr2; omega
end

/-! ### The parts of a row at the key of one of its pairs -/

theorem lo_take {l : List Pr} (hs : Srt l) {n : Nat} {q : Pr} (hq : l[n]? = some q) : loL l q.1 = l.take n := by
  have e := split_at hq
  have h := loL_here (q := q) (A := l.take n) (B := l.drop (n + 1)) (by rw [← e]; exact hs)
  rw [← e] at h; exact h
theorem ge_drop {l : List Pr} (hs : Srt l) {n : Nat} {q : Pr} (hq : l[n]? = some q) : geL l q.1 = l.drop n := by
  have e := split_at hq
  have hs' : Srt (l.take n ++ q :: l.drop (n + 1)) := by rw [← e]; exact hs
  have h := geL_left (q := q) hs' (Int.le_refl _)
  rw [← e, geL_none hs'.parts.2.2.1, List.nil_append] at h
  rw [h]
  exact (List.drop_eq_getElem_cons (List.getElem?_eq_some_iff.1 hq).1).symm ▸ by rw [(List.getElem?_eq_some_iff.1 hq).2]
/-- The parts of a row, where all ahead of n is below the key, and nothing from n on. -/
theorem lo_at {l : List Pr} {k : Int} {n : Nat} (h1 : ∀ z ∈ l.take n, z.1 < k) (h2 : ∀ z ∈ l.drop n, k ≤ z.1) : loL l k = l.take n := by
  have := List.take_append_drop n l
  rw [← this]
  unfold loL
  rw [List.filter_append]
  have a : (l.take n).filter (fun z => decide (z.1 < k)) = l.take n := loL_all h1
  have b : (l.drop n).filter (fun z => decide (z.1 < k)) = [] := loL_none h2
  rw [a, b, List.append_nil, this]
theorem ge_at {l : List Pr} {k : Int} {n : Nat} (h1 : ∀ z ∈ l.take n, z.1 < k) (h2 : ∀ z ∈ l.drop n, k ≤ z.1) : geL l k = l.drop n := by
  have := List.take_append_drop n l
  rw [← this]
  unfold geL
  rw [List.filter_append]
  have a : (l.take n).filter (fun z => decide (k ≤ z.1)) = [] := geL_none h1
  have b : (l.drop n).filter (fun z => decide (k ≤ z.1)) = l.drop n := geL_all h2
  rw [a, b, List.nil_append, this]
theorem loge_len (l : List Pr) (k : Int) : (loL l k).length + (geL l k).length = l.length := by
  unfold loL geL
  induction l with
  | nil => rfl
  | cons z l ih =>
    rw [List.filter_cons, List.filter_cons]
    by_cases h1 : z.1 < k
    · rw [if_pos (by simpa using h1), if_neg (by simp; omega)]; simp; omega
    · rw [if_neg (by simpa using h1), if_pos (by simp; omega)]; simp; omega
end Go.Proofs.Ytbmlpdkbiipcmaa
