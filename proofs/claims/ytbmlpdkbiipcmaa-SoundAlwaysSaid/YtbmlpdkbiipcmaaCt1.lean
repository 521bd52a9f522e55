/- Contracts of package cut: joined and without, whatever hangs on what: each way by itself, over what its calls tell. -/
import Derived.Test.YtbmlpdkbiipcmaaPtG
namespace Go.Proofs.Ytbmlpdkbiipcmaa
open Go.RowKit
set_option linter.all false

/-- What a call tells that makes nodes: a number and an error; the arena has grown by some items. -/
def Told (w : World) (p : Nat) (F : Nat → Prop) (room st : Int) (L : List It) (Q : List It → Int → Int → Prop) (e : Ending) (w' : World) : Prop :=
  ∃ (n er : Int) (M : List It), e = .returned (.tuple #[.int .i64 n, .int .i64 er]) ∧ Grew w p F room st (L ++ M) w' ∧ Q M n er

section
variable {w W W' : World} {p : Nat} {F : Nat → Prop} {room st : Int} {L : List It} {b c : Nat}
theorem Wk.nodeC {L' : List It} {k v x y s hh : Int} (m : Grew W p (fun k => Plus F w W k ∧ k ≠ b ∧ k ≠ c) room st L' W') (n : NodeAt W c k v x y s hh) : NodeAt W' c k v x y s hh := n.only m.2 (fun e => e.2.2 rfl)
theorem Told.mono {Q Q' : List It → Int → Int → Prop} {e : Ending} (h : Told w p F room st L Q e W) (hq : ∀ M n er, Q M n er → Q' M n er) : Told w p F room st L Q' e W := by
  obtain ⟨n, er, M, he, hg, q⟩ := h
  exact ⟨n, er, M, he, hg, hq _ _ _ q⟩
theorem Told.since {G : Nat → Prop} {Q : List It → Int → Int → Prop} {e : Ending} (h : Told W p G room st L Q e W') (hb : Below w.heap.size w W) (hF : ∀ k, G k → F k) : Told w p F room st L Q e W' := by
  obtain ⟨n, er, M, he, hg, q⟩ := h
  exact ⟨n, er, M, he, hg.since hb hF, q⟩
theorem Told.none {Q : List It → Int → Int → Prop} {n er : Int} (hA : Arena w p F room st L) (hb : Below w.heap.size w W) (hq : Q [] n er) : Told w p F room st L Q (.returned (.tuple #[.int .i64 n, .int .i64 er])) W :=
  ⟨n, er, [], rfl, by rw [List.append_nil]; exact Grew.ofBelow hA hb, hq⟩
/-- Behind a call and a second one. -/
theorem Told.two {M M2 : List It} {Q : List It → Int → Int → Prop} {n er : Int} (hg : Grew w p F room st (L ++ M ++ M2) W) (hq : Q (M ++ M2) n er) : Told w p F room st L Q (.returned (.tuple #[.int .i64 n, .int .i64 er])) W :=
  ⟨n, er, M ++ M2, rfl, by rw [← List.append_assoc]; exact hg, hq⟩
end

section
variable {w : World} {p : Nat} {F : Nat → Prop} {room st : Int} {L : List It} {l r k0 v0 x0 y0 s0 h0 k1 v1 x1 y1 s1 h1 : Int} {b1 : Bool}

set_option maxRecDepth 100000 in
set_option maxHeartbeats 3200000 in
theorem joined_l (ca : ∀ W, Below w.heap.size w W → Calls Try.prog 51 #[.pointer (some ⟨p, 0, none⟩), .int .i64 l] W fun e w' => e = .returned (.tuple #[.agg #[.int .i64 k0, .int .i64 v0, .int .i64 x0, .int .i64 y0, .int .i64 s0, .int .i64 h0], .bool false]) ∧ Below W.heap.size W w')
    (cb : ∀ W, Below w.heap.size w W → Calls Try.prog 51 #[.pointer (some ⟨p, 0, none⟩), .int .i64 r] W fun e w' => e = .returned (.tuple #[.agg #[.int .i64 k1, .int .i64 v1, .int .i64 x1, .int .i64 y1, .int .i64 s1, .int .i64 h1], .bool b1]) ∧ Below W.heap.size W w') :
    Calls Try.prog 46 #[.pointer (some ⟨p, 0, none⟩), .int .i64 l, .int .i64 r] w fun e w' => e = .returned (.tuple #[.int .i64 r, .int .i64 0]) ∧ Below w.heap.size w w' := by
  go_enter Try.func46, Try.ntmps46
  go_wp2_with (first
    | (go_at_call 51; ((with_reducible refine (ca _ (Below.refl _ _)).mono ?_); clear ca; rintro e w1 ⟨rfl, hb1⟩; have B1 := hb1.alloc hb1.size (.cells #[.int .i64 k0, .int .i64 v0, .int .i64 x0, .int .i64 y0, .int .i64 s0, .int .i64 h0] 41)))
    | (go_at_call 51; ((with_reducible refine (cb _ B1).mono ?_); clear cb; rintro e w2 ⟨rfl, hb2⟩; have B2 := B1.trans (hb2.mono B1.size))))
  go_ret2
  exact ⟨rfl, B2.alloc B2.size _⟩

set_option maxRecDepth 100000 in
set_option maxHeartbeats 3200000 in
theorem joined_r (ca : ∀ W, Below w.heap.size w W → Calls Try.prog 51 #[.pointer (some ⟨p, 0, none⟩), .int .i64 l] W fun e w' => e = .returned (.tuple #[.agg #[.int .i64 k0, .int .i64 v0, .int .i64 x0, .int .i64 y0, .int .i64 s0, .int .i64 h0], .bool true]) ∧ Below W.heap.size W w')
    (cb : ∀ W, Below w.heap.size w W → Calls Try.prog 51 #[.pointer (some ⟨p, 0, none⟩), .int .i64 r] W fun e w' => e = .returned (.tuple #[.agg #[.int .i64 k1, .int .i64 v1, .int .i64 x1, .int .i64 y1, .int .i64 s1, .int .i64 h1], .bool false]) ∧ Below W.heap.size W w') :
    Calls Try.prog 46 #[.pointer (some ⟨p, 0, none⟩), .int .i64 l, .int .i64 r] w fun e w' => e = .returned (.tuple #[.int .i64 l, .int .i64 0]) ∧ Below w.heap.size w w' := by
  go_enter Try.func46, Try.ntmps46
  go_wp2_with (first
    | (go_at_call 51; ((with_reducible refine (ca _ (Below.refl _ _)).mono ?_); clear ca; rintro e w1 ⟨rfl, hb1⟩; have B1 := hb1.alloc hb1.size (.cells #[.int .i64 k0, .int .i64 v0, .int .i64 x0, .int .i64 y0, .int .i64 s0, .int .i64 h0] 41)))
    | (go_at_call 51; ((with_reducible refine (cb _ B1).mono ?_); clear cb; rintro e w2 ⟨rfl, hb2⟩; have B2 := B1.trans (hb2.mono B1.size))))
  go_ret2
  exact ⟨rfl, B2.alloc B2.size _⟩

set_option maxRecDepth 100000 in
set_option maxHeartbeats 3200000 in
theorem joined_left {Q1 : List It → Int → Int → Prop} {Q2 : List It → List It → Int → Int → Prop} {Q : List It → Int → Int → Prop} (hA : Arena w p F room st L)
    (ca : ∀ W, Below w.heap.size w W → Calls Try.prog 51 #[.pointer (some ⟨p, 0, none⟩), .int .i64 l] W fun e w' => e = .returned (.tuple #[.agg #[.int .i64 k0, .int .i64 v0, .int .i64 x0, .int .i64 y0, .int .i64 s0, .int .i64 h0], .bool true]) ∧ Below W.heap.size W w')
    (cb : ∀ W, Below w.heap.size w W → Calls Try.prog 51 #[.pointer (some ⟨p, 0, none⟩), .int .i64 r] W fun e w' => e = .returned (.tuple #[.agg #[.int .i64 k1, .int .i64 v1, .int .i64 x1, .int .i64 y1, .int .i64 s1, .int .i64 h1], .bool true]) ∧ Below W.heap.size W w')
    (cab : ∀ W, Calls Try.prog 55 #[.int .i64 k0, .int .i64 k1] W fun e w' => e = .returned (.bool true) ∧ W = w')
    (cr : ∀ W G, Arena W p G room st L → Calls Try.prog 46 #[.pointer (some ⟨p, 0, none⟩), .int .i64 y0, .int .i64 r] W (Told W p G room st L Q1))
    (cm : ∀ W G M z er, Arena W p G room st (L ++ M) → Q1 M z er → Calls Try.prog 56 #[.pointer (some ⟨p, 0, none⟩), .agg #[.int .i64 k0, .int .i64 v0], .int .i64 x0, .int .i64 z, .int .i64 er] W (Told W p G room st (L ++ M) (Q2 M)))
    (fin : ∀ M M2 n er, Q2 M M2 n er → Q (M ++ M2) n er) :
    Calls Try.prog 46 #[.pointer (some ⟨p, 0, none⟩), .int .i64 l, .int .i64 r] w (Told w p F room st L Q) := by
  have HA := Lib.hid hA
  have FIN := Lib.hid fin
  have CM := Lib.hid cm
  clear hA fin cm
  go_enter Try.func46, Try.ntmps46
  go_wp2_with (first
    | (go_at_call 51; ((with_reducible refine (ca _ (Below.refl _ _)).mono ?_); clear ca; rintro e w1 ⟨rfl, hb1⟩; have B1 := hb1.alloc hb1.size (.cells #[.int .i64 k0, .int .i64 v0, .int .i64 x0, .int .i64 y0, .int .i64 s0, .int .i64 h0] 41)))
    | (go_at_call 51; ((with_reducible refine (cb _ B1).mono ?_); clear cb; rintro e w2 ⟨rfl, hb2⟩; have B2 := B1.trans (hb2.mono B1.size); have B3 := B2.alloc B2.size (.cells #[.int .i64 k1, .int .i64 v1, .int .i64 x1, .int .i64 y1, .int .i64 s1, .int .i64 h1] 41); have hs1 := hb1.size; have hs2 := hb2.size; have W1 := Wk.begin (b := w1.heap.size) (c := w2.heap.size) HA.out B3 hb1.size B2.size (by simp at hs2 ⊢; omega) (by simp); have N1 := ((Six.new w1 k0 v0 x0 y0 s0 h0 41).keep hb2).toNodeAt.keep ((Below.refl w2.heap.size w2).alloc (Nat.le_refl _) (.cells #[.int .i64 k1, .int .i64 v1, .int .i64 x1, .int .i64 y1, .int .i64 s1, .int .i64 h1] 41)); have N2 := (Six.new w2 k1 v1 x1 y1 s1 h1 41).toNodeAt; obtain ⟨c0, c1, c2, c3, c4, c5⟩ := N1; obtain ⟨d0, d1, d2, d3, d4, d5⟩ := N2; have N1 : NodeAt _ _ _ _ _ _ _ _ := ⟨c0, c1, c2, c3, c4, c5⟩; have N2 : NodeAt _ _ _ _ _ _ _ _ := ⟨d0, d1, d2, d3, d4, d5⟩; clear hb1 hb2 hs1 hs2 B1 B2 B3))
    | (go_at_call 55; ((with_reducible refine (cab _).mono ?_); clear cab; rintro e w3 ⟨rfl, rfl⟩))
    | (go_at_call 46; ((with_reducible refine (cr _ _ W1.a).mono ?_); clear cr; rintro e w4 ⟨z, er, M, rfl, hg, hq⟩; have W2 := W1.go hg; obtain ⟨c0, c1, c2, c3, c4, c5⟩ := Wk.node hg N1; obtain ⟨d0, d1, d2, d3, d4, d5⟩ := Wk.nodeC hg N2; have HQ := Lib.hid hq; clear hg hq W1))
    | (go_at_call 56; ((with_reducible refine (CM.out _ _ M z er W2.a HQ.out).mono ?_); clear CM; rintro e w5 ⟨n, er', M2, rfl, hg2, hq2⟩; have HQ2 := Lib.hid hq2; have HG2 := Lib.hid hg2; clear hg2 hq2)))
  go_ret2
  exact Told.two (W2.go HG2.out).grew (FIN.out _ _ _ _ HQ2.out)

set_option maxRecDepth 100000 in
set_option maxHeartbeats 3200000 in
theorem joined_right {Q1 : List It → Int → Int → Prop} {Q2 : List It → List It → Int → Int → Prop} {Q : List It → Int → Int → Prop} (hA : Arena w p F room st L)
    (ca : ∀ W, Below w.heap.size w W → Calls Try.prog 51 #[.pointer (some ⟨p, 0, none⟩), .int .i64 l] W fun e w' => e = .returned (.tuple #[.agg #[.int .i64 k0, .int .i64 v0, .int .i64 x0, .int .i64 y0, .int .i64 s0, .int .i64 h0], .bool true]) ∧ Below W.heap.size W w')
    (cb : ∀ W, Below w.heap.size w W → Calls Try.prog 51 #[.pointer (some ⟨p, 0, none⟩), .int .i64 r] W fun e w' => e = .returned (.tuple #[.agg #[.int .i64 k1, .int .i64 v1, .int .i64 x1, .int .i64 y1, .int .i64 s1, .int .i64 h1], .bool true]) ∧ Below W.heap.size W w')
    (cab : ∀ W, Calls Try.prog 55 #[.int .i64 k0, .int .i64 k1] W fun e w' => e = .returned (.bool false) ∧ W = w')
    (cr : ∀ W G, Arena W p G room st L → Calls Try.prog 46 #[.pointer (some ⟨p, 0, none⟩), .int .i64 l, .int .i64 x1] W (Told W p G room st L Q1))
    (cm : ∀ W G M z er, Arena W p G room st (L ++ M) → Q1 M z er → Calls Try.prog 56 #[.pointer (some ⟨p, 0, none⟩), .agg #[.int .i64 k1, .int .i64 v1], .int .i64 z, .int .i64 y1, .int .i64 er] W (Told W p G room st (L ++ M) (Q2 M)))
    (fin : ∀ M M2 n er, Q2 M M2 n er → Q (M ++ M2) n er) :
    Calls Try.prog 46 #[.pointer (some ⟨p, 0, none⟩), .int .i64 l, .int .i64 r] w (Told w p F room st L Q) := by
  have HA := Lib.hid hA
  have FIN := Lib.hid fin
  have CM := Lib.hid cm
  clear hA fin cm
  go_enter Try.func46, Try.ntmps46
  go_wp2_with (first
    | (go_at_call 51; ((with_reducible refine (ca _ (Below.refl _ _)).mono ?_); clear ca; rintro e w1 ⟨rfl, hb1⟩; have B1 := hb1.alloc hb1.size (.cells #[.int .i64 k0, .int .i64 v0, .int .i64 x0, .int .i64 y0, .int .i64 s0, .int .i64 h0] 41)))
    | (go_at_call 51; ((with_reducible refine (cb _ B1).mono ?_); clear cb; rintro e w2 ⟨rfl, hb2⟩; have B2 := B1.trans (hb2.mono B1.size); have B3 := B2.alloc B2.size (.cells #[.int .i64 k1, .int .i64 v1, .int .i64 x1, .int .i64 y1, .int .i64 s1, .int .i64 h1] 41); have hs1 := hb1.size; have hs2 := hb2.size; have W1 := Wk.begin (b := w1.heap.size) (c := w2.heap.size) HA.out B3 hb1.size B2.size (by simp at hs2 ⊢; omega) (by simp); have N1 := ((Six.new w1 k0 v0 x0 y0 s0 h0 41).keep hb2).toNodeAt.keep ((Below.refl w2.heap.size w2).alloc (Nat.le_refl _) (.cells #[.int .i64 k1, .int .i64 v1, .int .i64 x1, .int .i64 y1, .int .i64 s1, .int .i64 h1] 41)); have N2 := (Six.new w2 k1 v1 x1 y1 s1 h1 41).toNodeAt; obtain ⟨c0, c1, c2, c3, c4, c5⟩ := N1; obtain ⟨d0, d1, d2, d3, d4, d5⟩ := N2; have N1 : NodeAt _ _ _ _ _ _ _ _ := ⟨c0, c1, c2, c3, c4, c5⟩; have N2 : NodeAt _ _ _ _ _ _ _ _ := ⟨d0, d1, d2, d3, d4, d5⟩; clear hb1 hb2 hs1 hs2 B1 B2 B3))
    | (go_at_call 55; ((with_reducible refine (cab _).mono ?_); clear cab; rintro e w3 ⟨rfl, rfl⟩))
    | (go_at_call 46; ((with_reducible refine (cr _ _ W1.a).mono ?_); clear cr; rintro e w4 ⟨z, er, M, rfl, hg, hq⟩; have W2 := W1.go hg; obtain ⟨c0, c1, c2, c3, c4, c5⟩ := Wk.node hg N1; obtain ⟨d0, d1, d2, d3, d4, d5⟩ := Wk.nodeC hg N2; have HQ := Lib.hid hq; clear hg hq W1))
    | (go_at_call 56; ((with_reducible refine (CM.out _ _ M z er W2.a HQ.out).mono ?_); clear CM; rintro e w5 ⟨n, er', M2, rfl, hg2, hq2⟩; have HQ2 := Lib.hid hq2; have HG2 := Lib.hid hg2; clear hg2 hq2)))
  go_ret2
  exact Told.two (W2.go HG2.out).grew (FIN.out _ _ _ _ HQ2.out)

set_option maxRecDepth 100000 in
set_option maxHeartbeats 3200000 in
theorem without_zero {t : Int} {Q : List It → Int → Int → Prop} (hA : Arena w p F room st L)
    (ca : ∀ W, Below w.heap.size w W → Calls Try.prog 51 #[.pointer (some ⟨p, 0, none⟩), .int .i64 t] W fun e w' => e = .returned (.tuple #[.agg #[.int .i64 k0, .int .i64 v0, .int .i64 x0, .int .i64 y0, .int .i64 s0, .int .i64 h0], .bool false]) ∧ Below W.heap.size W w') 
    (cr : ∀ W G, Arena W p G room st L → Calls Try.prog 46 #[.pointer (some ⟨p, 0, none⟩), .int .i64 x0, .int .i64 y0] W (Told W p G room st L Q)) :
    Calls Try.prog 43 #[.pointer (some ⟨p, 0, none⟩), .int .i64 t, .int .i64 l] w (Told w p F room st L Q) := by
  have HA := Lib.hid hA
  clear hA
  go_enter Try.func43, Try.ntmps43
  go_wp2_with (first
    | (go_at_call 51; ((with_reducible refine (ca _ (Below.refl _ _)).mono ?_); clear ca; rintro e w1 ⟨rfl, hb1⟩; have B1 := hb1.alloc hb1.size (.cells #[.int .i64 k0, .int .i64 v0, .int .i64 x0, .int .i64 y0, .int .i64 s0, .int .i64 h0] 41); have W1 := Wk.begin (b := w1.heap.size) (c := w1.heap.size) HA.out B1 hb1.size hb1.size (by simp) (by simp); have N1 := (Six.new w1 k0 v0 x0 y0 s0 h0 41).toNodeAt; obtain ⟨c0, c1, c2, c3, c4, c5⟩ := N1; have N1 : NodeAt _ _ _ _ _ _ _ _ := ⟨c0, c1, c2, c3, c4, c5⟩; clear hb1 B1))
    | (fail)
    | (go_at_call 46; ((with_reducible refine (cr _ _ W1.a).mono ?_); clear cr; rintro e w4 ⟨z, er, M, rfl, hg, hq⟩; have W2 := W1.go hg; have HQ := Lib.hid hq; clear hg hq W1)))
  go_ret2
  exact ⟨z, er, M, rfl, W2.grew, HQ.out⟩

set_option maxRecDepth 100000 in
set_option maxHeartbeats 3200000 in
theorem without_here {t : Int} {Q : List It → Int → Int → Prop} (hA : Arena w p F room st L)
    (ca : ∀ W, Below w.heap.size w W → Calls Try.prog 51 #[.pointer (some ⟨p, 0, none⟩), .int .i64 t] W fun e w' => e = .returned (.tuple #[.agg #[.int .i64 k0, .int .i64 v0, .int .i64 x0, .int .i64 y0, .int .i64 s0, .int .i64 h0], .bool true]) ∧ Below W.heap.size W w') (hk : k0 = l)
    (cr : ∀ W G, Arena W p G room st L → Calls Try.prog 46 #[.pointer (some ⟨p, 0, none⟩), .int .i64 x0, .int .i64 y0] W (Told W p G room st L Q)) :
    Calls Try.prog 43 #[.pointer (some ⟨p, 0, none⟩), .int .i64 t, .int .i64 l] w (Told w p F room st L Q) := by
  have HA := Lib.hid hA
  clear hA
  have ch := fun W => holds_any k0 v0 x0 y0 s0 h0 l W
  rw [show (k0 == l) = true by simpa using hk] at ch
  clear hk
  go_enter Try.func43, Try.ntmps43
  go_wp2_with (first
    | (go_at_call 51; ((with_reducible refine (ca _ (Below.refl _ _)).mono ?_); clear ca; rintro e w1 ⟨rfl, hb1⟩; have B1 := hb1.alloc hb1.size (.cells #[.int .i64 k0, .int .i64 v0, .int .i64 x0, .int .i64 y0, .int .i64 s0, .int .i64 h0] 41); have W1 := Wk.begin (b := w1.heap.size) (c := w1.heap.size) HA.out B1 hb1.size hb1.size (by simp) (by simp); have N1 := (Six.new w1 k0 v0 x0 y0 s0 h0 41).toNodeAt; obtain ⟨c0, c1, c2, c3, c4, c5⟩ := N1; have N1 : NodeAt _ _ _ _ _ _ _ _ := ⟨c0, c1, c2, c3, c4, c5⟩; clear hb1 B1))
    | (go_at_call 54; ((with_reducible refine (ch _).mono ?_); clear ch; rintro e w3 ⟨rfl, hb3⟩; have W3 := W1.below hb3; have N3 := N1.keep hb3; obtain ⟨c0, c1, c2, c3, c4, c5⟩ := N3; have N1 : NodeAt _ _ _ _ _ _ _ _ := ⟨c0, c1, c2, c3, c4, c5⟩; clear W1; have W1 := W3; clear W3 hb3))
    | (go_at_call 46; ((with_reducible refine (cr _ _ W1.a).mono ?_); clear cr; rintro e w4 ⟨z, er, M, rfl, hg, hq⟩; have W2 := W1.go hg; have HQ := Lib.hid hq; clear hg hq W1)))
  go_ret2
  exact ⟨z, er, M, rfl, W2.grew, HQ.out⟩

set_option maxRecDepth 100000 in
set_option maxHeartbeats 3200000 in
theorem without_left {t : Int} {Q1 : List It → Int → Int → Prop} {Q2 : List It → List It → Int → Int → Prop} {Q : List It → Int → Int → Prop} (hA : Arena w p F room st L)
    (ca : ∀ W, Below w.heap.size w W → Calls Try.prog 51 #[.pointer (some ⟨p, 0, none⟩), .int .i64 t] W fun e w' => e = .returned (.tuple #[.agg #[.int .i64 k0, .int .i64 v0, .int .i64 x0, .int .i64 y0, .int .i64 s0, .int .i64 h0], .bool true]) ∧ Below W.heap.size W w') (hk : l < k0)
    (cr : ∀ W G, Arena W p G room st L → Calls Try.prog 43 #[.pointer (some ⟨p, 0, none⟩), .int .i64 x0, .int .i64 l] W (Told W p G room st L Q1))
    (cm : ∀ W G M z er, Arena W p G room st (L ++ M) → Q1 M z er → Calls Try.prog 56 #[.pointer (some ⟨p, 0, none⟩), .agg #[.int .i64 k0, .int .i64 v0], .int .i64 z, .int .i64 y0, .int .i64 er] W (Told W p G room st (L ++ M) (Q2 M)))
    (fin : ∀ M M2 n er, Q2 M M2 n er → Q (M ++ M2) n er) :
    Calls Try.prog 43 #[.pointer (some ⟨p, 0, none⟩), .int .i64 t, .int .i64 l] w (Told w p F room st L Q) := by
  have HA := Lib.hid hA
  have FIN := Lib.hid fin
  have CM := Lib.hid cm
  clear hA fin cm
  have ch := fun W => holds_any k0 v0 x0 y0 s0 h0 l W
  rw [show (k0 == l) = false by simp; omega] at ch
  have hd : decide (l < k0) = true := decide_eq_true hk
  clear hk
  go_enter Try.func43, Try.ntmps43
  go_wp2_with (first
    | (go_at_call 51; ((with_reducible refine (ca _ (Below.refl _ _)).mono ?_); clear ca; rintro e w1 ⟨rfl, hb1⟩; have B1 := hb1.alloc hb1.size (.cells #[.int .i64 k0, .int .i64 v0, .int .i64 x0, .int .i64 y0, .int .i64 s0, .int .i64 h0] 41); have W1 := Wk.begin (b := w1.heap.size) (c := w1.heap.size) HA.out B1 hb1.size hb1.size (by simp) (by simp); have N1 := (Six.new w1 k0 v0 x0 y0 s0 h0 41).toNodeAt; obtain ⟨c0, c1, c2, c3, c4, c5⟩ := N1; have N1 : NodeAt _ _ _ _ _ _ _ _ := ⟨c0, c1, c2, c3, c4, c5⟩; clear hb1 B1))
    | (go_at_call 54; ((with_reducible refine (ch _).mono ?_); clear ch; rintro e w3 ⟨rfl, hb3⟩; have W3 := W1.below hb3; have N3 := N1.keep hb3; obtain ⟨c0, c1, c2, c3, c4, c5⟩ := N3; have N1 : NodeAt _ _ _ _ _ _ _ _ := ⟨c0, c1, c2, c3, c4, c5⟩; clear W1; have W1 := W3; clear W3 hb3))
    | (go_at_call 43; ((with_reducible refine (cr _ _ W1.a).mono ?_); clear cr; rintro e w4 ⟨z, er, M, rfl, hg, hq⟩; have W2 := W1.go hg; obtain ⟨c0, c1, c2, c3, c4, c5⟩ := Wk.node hg N1; have HQ := Lib.hid hq; clear hg hq W1))
    | (go_at_call 56; ((with_reducible refine (CM.out _ _ M z er W2.a HQ.out).mono ?_); clear CM; rintro e w5 ⟨n, er', M2, rfl, hg2, hq2⟩; have HQ2 := Lib.hid hq2; have HG2 := Lib.hid hg2; clear hg2 hq2)))
  go_ret2
  exact Told.two (W2.go HG2.out).grew (FIN.out _ _ _ _ HQ2.out)

set_option maxRecDepth 100000 in
set_option maxHeartbeats 3200000 in
theorem without_right {t : Int} {Q1 : List It → Int → Int → Prop} {Q2 : List It → List It → Int → Int → Prop} {Q : List It → Int → Int → Prop} (hA : Arena w p F room st L)
    (ca : ∀ W, Below w.heap.size w W → Calls Try.prog 51 #[.pointer (some ⟨p, 0, none⟩), .int .i64 t] W fun e w' => e = .returned (.tuple #[.agg #[.int .i64 k0, .int .i64 v0, .int .i64 x0, .int .i64 y0, .int .i64 s0, .int .i64 h0], .bool true]) ∧ Below W.heap.size W w') (hk : k0 < l)
    (cr : ∀ W G, Arena W p G room st L → Calls Try.prog 43 #[.pointer (some ⟨p, 0, none⟩), .int .i64 y0, .int .i64 l] W (Told W p G room st L Q1))
    (cm : ∀ W G M z er, Arena W p G room st (L ++ M) → Q1 M z er → Calls Try.prog 56 #[.pointer (some ⟨p, 0, none⟩), .agg #[.int .i64 k0, .int .i64 v0], .int .i64 x0, .int .i64 z, .int .i64 er] W (Told W p G room st (L ++ M) (Q2 M)))
    (fin : ∀ M M2 n er, Q2 M M2 n er → Q (M ++ M2) n er) :
    Calls Try.prog 43 #[.pointer (some ⟨p, 0, none⟩), .int .i64 t, .int .i64 l] w (Told w p F room st L Q) := by
  have HA := Lib.hid hA
  have FIN := Lib.hid fin
  have CM := Lib.hid cm
  clear hA fin cm
  have ch := fun W => holds_any k0 v0 x0 y0 s0 h0 l W
  rw [show (k0 == l) = false by simp; omega] at ch
  have hd : decide (l < k0) = false := decide_eq_false (by omega)
  clear hk
  go_enter Try.func43, Try.ntmps43
  go_wp2_with (first
    | (go_at_call 51; ((with_reducible refine (ca _ (Below.refl _ _)).mono ?_); clear ca; rintro e w1 ⟨rfl, hb1⟩; have B1 := hb1.alloc hb1.size (.cells #[.int .i64 k0, .int .i64 v0, .int .i64 x0, .int .i64 y0, .int .i64 s0, .int .i64 h0] 41); have W1 := Wk.begin (b := w1.heap.size) (c := w1.heap.size) HA.out B1 hb1.size hb1.size (by simp) (by simp); have N1 := (Six.new w1 k0 v0 x0 y0 s0 h0 41).toNodeAt; obtain ⟨c0, c1, c2, c3, c4, c5⟩ := N1; have N1 : NodeAt _ _ _ _ _ _ _ _ := ⟨c0, c1, c2, c3, c4, c5⟩; clear hb1 B1))
    | (go_at_call 54; ((with_reducible refine (ch _).mono ?_); clear ch; rintro e w3 ⟨rfl, hb3⟩; have W3 := W1.below hb3; have N3 := N1.keep hb3; obtain ⟨c0, c1, c2, c3, c4, c5⟩ := N3; have N1 : NodeAt _ _ _ _ _ _ _ _ := ⟨c0, c1, c2, c3, c4, c5⟩; clear W1; have W1 := W3; clear W3 hb3))
    | (go_at_call 43; ((with_reducible refine (cr _ _ W1.a).mono ?_); clear cr; rintro e w4 ⟨z, er, M, rfl, hg, hq⟩; have W2 := W1.go hg; obtain ⟨c0, c1, c2, c3, c4, c5⟩ := Wk.node hg N1; have HQ := Lib.hid hq; clear hg hq W1))
    | (go_at_call 56; ((with_reducible refine (CM.out _ _ M z er W2.a HQ.out).mono ?_); clear CM; rintro e w5 ⟨n, er', M2, rfl, hg2, hq2⟩; have HQ2 := Lib.hid hq2; have HG2 := Lib.hid hg2; clear hg2 hq2)))
  go_ret2
  exact Told.two (W2.go HG2.out).grew (FIN.out _ _ _ _ HQ2.out)
end
end Go.Proofs.Ytbmlpdkbiipcmaa
