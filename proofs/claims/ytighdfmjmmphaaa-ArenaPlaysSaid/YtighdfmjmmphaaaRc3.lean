/- Contracts of the plain row's makings: NewArena, Make, Cell. -/
import Derived.Test.YtighdfmjmmphaaaRc2
namespace Go.Proofs.Ytighdfmjmmphaaa
open Go.RowKit
set_option linter.unusedVariables false

theorem infoRec : (Try.prog.info? 54).map (fun i => (i.zero, i.size, i.bytes)) = some (some (.agg #[.int .i64 0, .slice none 0 0, .bool false, .int .i64 0]), 4, 48) := by kernel_rfl

set_option maxHeartbeats 400000 in
theorem rnew_any (room : Int) (w : World) :
    Calls Try.prog 12 #[.int .i64 room] w fun e w' => e = .returned (.pointer (some ⟨w.heap.size, 0, none⟩)) ∧ w' = w.alloc (.cells #[.int .i64 (min (max room 0) 60000), .slice none 0 0, .int .i64 0] 44) := by
  by_cases h1 : room < 60000
  · by_cases h0 : 0 < room
    · have e : min (max room 0) 60000 = room := by omega
      rw [e]; clear e
      go_enter Try.func12, Try.ntmps12
      go_wp2
      go_ret
      exact ⟨rfl, rfl⟩
    · have e : min (max room 0) 60000 = 0 := by omega
      have h0' : room ≤ 0 := by omega
      rw [e]; clear e h0
      go_enter Try.func12, Try.ntmps12
      go_wp2
      all_goals
        go_ret
        first
          | exact ⟨rfl, rfl⟩
          | (obtain rfl : room = 0 := by omega
             exact ⟨rfl, rfl⟩)
  · have e : min (max room 0) 60000 = 60000 := by omega
    have h1' : 60000 ≤ room := by omega
    rw [e]; clear e h1
    go_enter Try.func12, Try.ntmps12
    go_wp2
    all_goals
      go_ret
      first
        | exact ⟨rfl, rfl⟩
        | (obtain rfl : room = 60000 := by omega
           exact ⟨rfl, rfl⟩)

theorem rnew_ref (r : Int) (w : World) (h0 : 0 ≤ r) (h1 : r ≤ 60000) :
    Ref (w.alloc (.cells #[.int .i64 r, .slice none 0 0, .int .i64 0] 44)) w.heap.size (fun k => k = w.heap.size) r 0 [] :=
  ⟨.slice none 0 0, [], ⟨by simp, by simp, by simp, fun j => by simp, World.ownsRow_nil _ _ _ _, by simp [Value.ownBlock], rfl, fun i x s hx => by simp at hx, by simp, by simpa using h0, h1⟩, fun k hk => by
    rcases hk with hk | hk | ⟨s, hs, _⟩
    · exact hk
    · simp [Value.ownBlock] at hk
    · simp at hs⟩

set_option maxHeartbeats 400000 in
theorem rmake_arg (k : Int) (ao : Option Addr) (n c : Nat) (w : World) (q : Nat) (hn : n ≤ maxLen) (h : k < 1 ∨ 12 < n) :
    Calls Try.prog 14 #[.pointer (some ⟨q, 0, none⟩), .int .i64 k, .slice ao n c] w fun e w' => e = .returned (.tuple #[.int .i64 0, .int .i64 1]) ∧ w = w' := by
  unfold maxLen at hn
  by_cases hk : k < 1
  · clear h
    go_enter Try.func14, Try.ntmps14
    go_wp2
    go_ret2
    exact ⟨rfl, rfl⟩
  · have hk1 : 1 ≤ k := by omega
    have hn1 : (12 : Int) < (n : Int) := by omega
    clear h hk
    go_enter Try.func14, Try.ntmps14
    go_wp2
    go_ret2
    exact ⟨rfl, rfl⟩

set_option maxHeartbeats 400000 in
theorem rmake_full (k : Int) (ao : Option Addr) (n c : Nat) (w : World) (q : Nat) (G : Nat → Prop) (max mv : Int) (l : List It) (h : Ref w q G max mv l) (hk : 1 ≤ k) (hn : n ≤ 12) (hf : max = l.length) :
    Calls Try.prog 14 #[.pointer (some ⟨q, 0, none⟩), .int .i64 k, .slice ao n c] w fun e w' => e = .returned (.tuple #[.int .i64 0, .int .i64 2]) ∧ Below w.heap.size w w' := by
  obtain ⟨lv, ss, h, _⟩ := h
  obtain ⟨lo, lc, rfl, h1, h2⟩ := row_form h.rl
  have c0 := h.c0
  have c1 := h.c1
  have hq := h.lt q (.inl rfl)
  have hn1 : ¬ (12 : Int) < (n : Int) := by omega
  subst hf
  unfold maxLen at h2
  clear h
  go_enter Try.func14, Try.ntmps14
  go_wp2_with (fail)
  go_quiet (fail)
  go_wp2
  go_ret2
  exact ⟨rfl, below_drewN (Below.refl _ _) _⟩

def MadeR (w : World) (q : Nat) (G : Nat → Prop) (max mv : Int) (l : List It) (x : It) (e : Ending) (w' : World) : Prop :=
  e = .returned (.tuple #[.int .i64 ((l.length + 1 : Nat) : Int), .int .i64 0]) ∧ Ref w' q (Plus G w w') max mv (l ++ [x]) ∧ Only G w w'

/-- One item more, with whose blocks. -/
theorem RefIs.made {w W w2 : World} {q : Nat} {lv lv' s : Value} {max mv : Int} {l : List It} {ss : List Value} {G : Nat → Prop} {x : It} (h : RefIs w q lv max mv l ss) (hf : ∀ k, FootR q lv ss k → G k) (hb : Below w.heap.size w W) (hs : OwnVals W s x) (hsb : ∀ k, s.ownBlock = some k → w.heap.size ≤ k)
    (hg : W.grownBy w2 lv.ownBlock) (hr : w2.ownsRow 0 54 4 lv' (l.length + 1) (rowR l ss ++ [.int .i64 x.1, s, .bool (decide (x.1 = 0)), .int .i64 (holdsOf x)]))
    (hk : ∀ k, lv'.ownBlock = some k → lv.ownBlock = some k ∨ W.heap.size ≤ k) (hx : ItOk x) (hfit : (l.length : Int) < max) :
    Ref (w2.setCell ⟨q, 1, none⟩ lv') q (Plus G w (w2.setCell ⟨q, 1, none⟩ lv')) max mv (l ++ [x]) ∧ Only G w (w2.setCell ⟨q, 1, none⟩ lv') := by
  have R := h.add hb hs hsb hg hr hk hx hfit
  refine ⟨⟨lv', ss ++ [s], R, fun k e => ?_⟩, Only.setCell (p := ⟨q, 1, none⟩) ((Only.ofBelow hb).grown hg (fun k e _ => hf k (.inr (.inl e)))) (.inl (hf q (.inl rfl))) _⟩
  have hlt := R.lt k e
  have hold : G k ∨ w.heap.size ≤ k := by
    rcases e with rfl | e | ⟨t, ht, e⟩
    · exact .inl (hf _ (.inl rfl))
    · rcases hk k e with e' | e'
      · exact .inl (hf k (.inr (.inl e')))
      · have := hb.size; exact .inr (by omega)
    · rcases List.mem_append.1 ht with ht | ht
      · exact .inl (hf k (.inr (.inr ⟨t, ht, e⟩)))
      · simp at ht; subst ht; exact .inr (hsb k e)
  exact hold.imp id (fun hge => ⟨hge, hlt⟩)

set_option maxHeartbeats 400000 in
theorem rcell_full (v : Int) (w : World) (q : Nat) (G : Nat → Prop) (max mv : Int) (l : List It) (h : Ref w q G max mv l) (hf : max = l.length) :
    Calls Try.prog 16 #[.pointer (some ⟨q, 0, none⟩), .int .i64 v] w fun e w' => e = .returned (.tuple #[.int .i64 0, .int .i64 2]) ∧ Below w.heap.size w w' := by
  obtain ⟨lv, ss, h, _⟩ := h
  obtain ⟨lo, lc, rfl, h1, h2⟩ := row_form h.rl
  have c0 := h.c0
  have c1 := h.c1
  have hq := h.lt q (.inl rfl)
  subst hf
  unfold maxLen at h2
  clear h
  go_enter Try.func16, Try.ntmps16
  go_wp2_with (fail)
  go_quiet (fail)
  go_wp2
  go_ret2
  exact ⟨rfl, below_drewN (Below.refl _ _) _⟩

set_option maxHeartbeats 1600000 in
theorem rcell_ok (v : Int) (w : World) (q : Nat) (G : Nat → Prop) (max mv : Int) (l : List It) (h : Ref w q G max mv l) (hr : (l.length : Int) < max) :
    Calls Try.prog 16 #[.pointer (some ⟨q, 0, none⟩), .int .i64 v] w (MadeR w q G max mv l (0, [v])) := by
  obtain ⟨lv, ss, h, hf⟩ := h
  obtain ⟨lo, lc, rfl, h1, h2⟩ := row_form h.rl
  have c0 := h.c0
  have c1 := h.c1
  have hq := h.lt q (.inl rfl)
  have hr' : ¬ max ≤ (l.length : Int) := by omega
  have htop := h.top
  have H := Lib.hid h
  obtain ⟨i0, hi, hz, hs1, hs2⟩ := info_parts infoRec
  have hb1 : l.length + 1 ≤ maxLen := by unfold maxLen; omega
  have hb2 : (l.length + 1) * 48 ≤ 140737488355328 := by omega
  unfold maxLen at h2
  clear h
  go_enter Try.func16, Try.ntmps16
  go_wp2_with (fail)
  go_quiet (fail)
  go_wp2_with (at_builtin; (refine wpList_own_append rfl (.tmp 20) (.tmp 23) 42 rfl 54 i0 _ 4 48 Try.underlying42 hi hz hs1 hs2 rfl (by decide) _ _ _ rfl (H.out.below ((below_drewN (Below.refl _ _) _).alloc (Nat.le_refl _) _)).rl _ 1 [.int .i64 0, .slice none 0 0, .bool true, .int .i64 v] rfl (.inr ⟨_, _, rfl, cells_new _ #[.int .i64 0, .slice none 0 0, .bool true, .int .i64 v] _⟩) rfl (by intro u hu; simp at hu; rcases hu with rfl | rfl | rfl | rfl <;> rfl) hb1 hb2 ?_); intro lv2 w2 hown2 hgr2 hk2; obtain ⟨ao2, cap2, rfl, hm21, hm22⟩ := row_form hown2; unfold maxLen at hm22; have hRA := H.out.below ((below_drewN (Below.refl _ _) nq).alloc (Nat.le_refl _) (.cells #[.int .i64 0, .slice none 0 0, .bool true, .int .i64 v] 54)); have e1 := hgr2.cell hRA.c1 (fun e => hRA.nl e.symm); have e2 := (World.frozen?_of_block (a := ⟨q, 1, none⟩) (hgr2.block q (hRA.lt q (.inl rfl)) (fun e => hRA.nl e.symm))).trans (hRA.fr 1); have hq2 : q < w2.heap.size := (Nat.lt_of_lt_of_le (hRA.lt q (.inl rfl)) hgr2.size); clear hRA)
  go_ret2
  exact ⟨rfl, H.out.made hf ((below_drewN (Below.refl _ _) nq).alloc (Nat.le_refl _) _) (x := (0, [v])) (s := .slice none 0 0) (World.ownsRow_nil _ _ _ _) (fun k' e => by simp [Value.ownBlock] at e) hgr2 hown2 hk2 ⟨Int.le_refl _, by simp, fun _ => ⟨v, rfl⟩⟩ hr⟩

end Go.Proofs.Ytighdfmjmmphaaa
