/- Contracts of package join: meet, Two. -/
import Derived.Test.YtbmlpdkbiipcmaaCt2
namespace Go.Proofs.Ytbmlpdkbiipcmaa
open Go.RowKit
set_option linter.all false

/-! ### meet -/

/-- Both have keys, and those of the left one do not end below where those of the right one begin. -/
def meetL (A B : List Pr) : Bool := (A[A.length - 1]?).isSome && (B[0]?).isSome && decide (((B[0]?).getD (0, 0)).1 ≤ ((A[A.length - 1]?).getD (0, 0)).1)

section
variable {w w0 W : World} {p : Nat} {F : Nat → Prop} {room st : Int} {L : List It} {l r k0 v0 k1 v1 : Int} {b0 b1 b : Bool}
theorem meet_core (q : Option Addr)
    (cx : ∀ W, Below w.heap.size w W → Calls Try.prog 59 #[.pointer q, .int .i64 l] W fun e w' => e = .returned (.tuple #[.agg #[.int .i64 k0, .int .i64 v0], .bool b0]) ∧ Below W.heap.size W w')
    (cn : ∀ W, Below w.heap.size w W → Calls Try.prog 60 #[.pointer q, .int .i64 r] W fun e w' => e = .returned (.tuple #[.agg #[.int .i64 k1, .int .i64 v1], .bool b1]) ∧ Below W.heap.size W w')
    (hb : (b0 && b1 && decide (k1 ≤ k0)) = b) :
    Calls Try.prog 45 #[.pointer q, .int .i64 l, .int .i64 r] w fun e w' => e = .returned (.bool b) ∧ Below w.heap.size w w' := by
  cases b0
  · obtain rfl : false = b := by rw [← hb]; rfl
    clear hb
    go_enter Try.func45, Try.ntmps45
    go_wp2_with (first
      | (go_at_call 59; ((with_reducible refine (cx _ (Below.refl _ _)).mono ?_); clear cx; rintro e w1 ⟨rfl, hb1⟩; have B1 := hb1.alloc hb1.size (.cells #[.int .i64 k0, .int .i64 v0] 24)))
      | (go_at_call 60; ((with_reducible refine (cn _ B1).mono ?_); clear cn; rintro e w2 ⟨rfl, hb2⟩; have B2 := B1.trans (hb2.mono B1.size))))
    go_ret
    exact ⟨rfl, B2.alloc B2.size _⟩
  · cases b1
    · obtain rfl : false = b := by rw [← hb]; rfl
      clear hb
      go_enter Try.func45, Try.ntmps45
      go_wp2_with (first
        | (go_at_call 59; ((with_reducible refine (cx _ (Below.refl _ _)).mono ?_); clear cx; rintro e w1 ⟨rfl, hb1⟩; have B1 := hb1.alloc hb1.size (.cells #[.int .i64 k0, .int .i64 v0] 24)))
        | (go_at_call 60; ((with_reducible refine (cn _ B1).mono ?_); clear cn; rintro e w2 ⟨rfl, hb2⟩; have B2 := B1.trans (hb2.mono B1.size))))
      go_ret
      exact ⟨rfl, B2.alloc B2.size _⟩
    · obtain rfl : decide (k1 ≤ k0) = b := by rw [← hb]; simp
      clear hb
      go_enter Try.func45, Try.ntmps45
      go_wp2_with (first
        | (go_at_call 59; ((with_reducible refine (cx _ (Below.refl _ _)).mono ?_); clear cx; rintro e w1 ⟨rfl, hb1⟩; have B1 := hb1.alloc hb1.size (.cells #[.int .i64 k0, .int .i64 v0] 24); have hs1 := hb1.size; have T1 := Two.new w1 k0 v0 24))
        | (go_at_call 60; ((with_reducible refine (cn _ B1).mono ?_); clear cn; rintro e w2 ⟨rfl, hb2⟩; have B2 := B1.trans (hb2.mono B1.size); have T2 := (T1.keep hb2).past (.cells #[.int .i64 k1, .int .i64 v1] 24); have T3 := Two.new w2 k1 v1 24; obtain ⟨c0, c1, _, _⟩ := T2; obtain ⟨d0, d1, _, _⟩ := T3)))
      go_ret
      refine ⟨?_, B2.alloc B2.size _⟩
      first | rfl | (congr 2)

theorem meet_tree {A B : List Pr} (hA : Arena w p F room st L) (TA : Tree L l A) (TB : Tree L r B) :
    Calls Try.prog 45 #[.pointer (some ⟨p, 0, none⟩), .int .i64 l, .int .i64 r] w fun e w' => e = .returned (.bool (meetL A B)) ∧ Below w.heap.size w w' := by
  obtain ⟨⟨q0, q1⟩, hq⟩ : ∃ q, (A[A.length - 1]?).getD (0, 0) = q := ⟨_, rfl⟩
  obtain ⟨⟨r0, r1⟩, hr⟩ : ∃ q, (B[0]?).getD (0, 0) = q := ⟨_, rfl⟩
  exact meet_core _ (fun W hb => lmax_any l W (Gets.ofArena (hA.below hb)) q0 q1 _ (by rw [far_right TA]; exact hq) (by rw [far_right TA]))
    (fun W hb => lmin_any r W (Gets.ofArena (hA.below hb)) r0 r1 _ (by rw [far_left TB]; exact hr) (by rw [far_left TB]))
    (by unfold meetL; rw [hq, hr])

theorem meet_no {A B : List Pr} (h : Srt (A ++ B)) : meetL A B = false := by
  obtain ⟨_, _, hAB⟩ := h.two
  unfold meetL
  cases h1 : A[A.length - 1]? with
  | none => simp
  | some x =>
    cases h2 : B[0]? with
    | none => simp
    | some y =>
      have := hAB x (List.mem_of_getElem? h1) y (List.mem_of_getElem? h2)
      simp
      omega
theorem meet_yes {A B : List Pr} {x y : Pr} (h1 : A[A.length - 1]? = some x) (h2 : B[0]? = some y) (h : y.1 ≤ x.1) : meetL A B = true := by
  unfold meetL
  rw [h1, h2]
  simpa using h

/-! ### Two -/

theorem two_arg1 (q : Option Addr) (ct : Calls Try.prog 32 #[.pointer q, .int .i64 l] w fun e w' => e = .returned (.bool false) ∧ Below w.heap.size w w') :
    Calls Try.prog 27 #[.pointer q, .int .i64 l, .int .i64 r] w fun e w' => e = .returned (.tuple #[.int .i64 0, .int .i64 1]) ∧ Below w.heap.size w w' := by
  go_enter Try.func27, Try.ntmps27
  go_wp2_with (go_at_call 32; ((with_reducible refine ct.mono ?_); clear ct; rintro e w1 ⟨rfl, hb1⟩))
  refine bodyPost_ret (v := .tuple #[.int .i64 0, .int .i64 1]) (by simp [results, Try.results27, go_sem]) rfl ?_
  exact ⟨rfl, hb1⟩
theorem two_arg2 (q : Option Addr) (ct : Calls Try.prog 32 #[.pointer q, .int .i64 l] w fun e w' => e = .returned (.bool true) ∧ Below w.heap.size w w')
    (cu : ∀ W, Below w.heap.size w W → Calls Try.prog 32 #[.pointer q, .int .i64 r] W fun e w' => e = .returned (.bool false) ∧ Below W.heap.size W w') :
    Calls Try.prog 27 #[.pointer q, .int .i64 l, .int .i64 r] w fun e w' => e = .returned (.tuple #[.int .i64 0, .int .i64 1]) ∧ Below w.heap.size w w' := by
  go_enter Try.func27, Try.ntmps27
  go_wp2_with (first
    | (go_at_call 32; ((with_reducible refine ct.mono ?_); clear ct; rintro e w1 ⟨rfl, hb1⟩))
    | (go_at_call 32; ((with_reducible refine (cu _ hb1).mono ?_); clear cu; rintro e w2 ⟨rfl, hb2⟩)))
  refine bodyPost_ret (v := .tuple #[.int .i64 0, .int .i64 1]) (by simp [results, Try.results27, go_sem]) rfl ?_
  exact ⟨rfl, hb1.trans (hb2.mono hb1.size)⟩
theorem two_meet (q : Option Addr) (ct : Calls Try.prog 32 #[.pointer q, .int .i64 l] w fun e w' => e = .returned (.bool true) ∧ Below w.heap.size w w')
    (cu : ∀ W, Below w.heap.size w W → Calls Try.prog 32 #[.pointer q, .int .i64 r] W fun e w' => e = .returned (.bool true) ∧ Below W.heap.size W w')
    (cm : ∀ W, Below w.heap.size w W → Calls Try.prog 45 #[.pointer q, .int .i64 l, .int .i64 r] W fun e w' => e = .returned (.bool true) ∧ Below W.heap.size W w') :
    Calls Try.prog 27 #[.pointer q, .int .i64 l, .int .i64 r] w fun e w' => e = .returned (.tuple #[.int .i64 0, .int .i64 1]) ∧ Below w.heap.size w w' := by
  go_enter Try.func27, Try.ntmps27
  go_wp2_with (first
    | (go_at_call 32; ((with_reducible refine ct.mono ?_); clear ct; rintro e w1 ⟨rfl, hb1⟩))
    | (go_at_call 32; ((with_reducible refine (cu _ hb1).mono ?_); clear cu; rintro e w2 ⟨rfl, hb2⟩; have hb3 := hb1.trans (hb2.mono hb1.size)))
    | (go_at_call 45; ((with_reducible refine (cm _ hb3).mono ?_); clear cm; rintro e w3 ⟨rfl, hb4⟩)))
  refine bodyPost_ret (v := .tuple #[.int .i64 0, .int .i64 1]) (by simp [results, Try.results27, go_sem]) rfl ?_
  exact ⟨rfl, hb3.trans (hb4.mono hb3.size)⟩
theorem two_goes {R : Int → Int → World → Prop} (q : Option Addr) (ct : Calls Try.prog 32 #[.pointer q, .int .i64 l] w fun e w' => e = .returned (.bool true) ∧ Below w.heap.size w w')
    (cu : ∀ W, Below w.heap.size w W → Calls Try.prog 32 #[.pointer q, .int .i64 r] W fun e w' => e = .returned (.bool true) ∧ Below W.heap.size W w')
    (cm : ∀ W, Below w.heap.size w W → Calls Try.prog 45 #[.pointer q, .int .i64 l, .int .i64 r] W fun e w' => e = .returned (.bool false) ∧ Below W.heap.size W w')
    (cj : ∀ W, Below w.heap.size w W → Calls Try.prog 46 #[.pointer q, .int .i64 l, .int .i64 r] W fun e w' => ∃ n er : Int, e = .returned (.tuple #[.int .i64 n, .int .i64 er]) ∧ R n er w') :
    Calls Try.prog 27 #[.pointer q, .int .i64 l, .int .i64 r] w fun e w' => ∃ n er : Int, e = .returned (.tuple #[.int .i64 n, .int .i64 er]) ∧ R n er w' := by
  go_enter Try.func27, Try.ntmps27
  go_wp2_with (first
    | (go_at_call 32; ((with_reducible refine ct.mono ?_); clear ct; rintro e w1 ⟨rfl, hb1⟩))
    | (go_at_call 32; ((with_reducible refine (cu _ hb1).mono ?_); clear cu; rintro e w2 ⟨rfl, hb2⟩; have hb3 := hb1.trans (hb2.mono hb1.size)))
    | (go_at_call 45; ((with_reducible refine (cm _ hb3).mono ?_); clear cm; rintro e w3 ⟨rfl, hb4⟩; have hb5 := hb3.trans (hb4.mono hb3.size)))
    | (go_at_call 46; ((with_reducible refine (cj _ hb5).mono ?_); clear cj; rintro e w4 ⟨n, er, rfl, hr⟩; have HR := Lib.hid hr; clear hr)))
  go_ret2
  exact ⟨n, er, rfl, HR.out⟩

theorem two_nil (l r : Int) (w : World) : Calls Try.prog 27 #[.pointer none, .int .i64 l, .int .i64 r] w fun e w' => e = .returned (.tuple #[.int .i64 0, .int .i64 1]) ∧ Below w.heap.size w w' :=
  two_arg1 none (isTreap_nil w l)
theorem tree_is (hA : Arena w p F room st L) {t : Int} {A : List Pr} (T : Tree L t A) (hl : A.length ≤ 1000) :
    Calls Try.prog 32 #[.pointer (some ⟨p, 0, none⟩), .int .i64 t] w fun e w' => e = .returned (.bool true) ∧ Below w.heap.size w w' :=
  isTreap_is hA t true ⟨fun _ => (T.hung hl).1.ok, fun _ => rfl⟩
theorem two_no {A : List Pr} (hA : Arena w p F room st L) (TA : Tree L l A) (la : A.length ≤ 1000) (hr : ¬ HungOk L r) :
    Calls Try.prog 27 #[.pointer (some ⟨p, 0, none⟩), .int .i64 l, .int .i64 r] w fun e w' => e = .returned (.tuple #[.int .i64 0, .int .i64 1]) ∧ Below w.heap.size w w' :=
  two_arg2 _ (tree_is hA TA la) (fun W hb => isTreap_is (hA.below hb) r false ⟨fun h => Bool.noConfusion h, fun h => absurd h hr⟩)
/-- The wrong way round. -/
theorem two_wrong {A B : List Pr} (hA : Arena w p F room st L) (TA : Tree L l A) (TB : Tree L r B) (la : A.length ≤ 1000) (lb : B.length ≤ 1000) (hm : meetL A B = true) :
    Calls Try.prog 27 #[.pointer (some ⟨p, 0, none⟩), .int .i64 l, .int .i64 r] w fun e w' => e = .returned (.tuple #[.int .i64 0, .int .i64 1]) ∧ Below w.heap.size w w' :=
  two_meet _ (tree_is hA TA la) (fun W hb => tree_is (hA.below hb) TB lb) (fun W hb => by have c := meet_tree (hA.below hb) TA TB; rw [hm] at c; exact c)
theorem two_any {A B : List Pr} (hA : Arena w p F room st L) (TA : Tree L l A) (TB : Tree L r B) (hl : A.length + B.length ≤ 1000) (hs : Srt (A ++ B)) :
    Calls Try.prog 27 #[.pointer (some ⟨p, 0, none⟩), .int .i64 l, .int .i64 r] w (Told w p F room st L (CutQ L room (hi A + hi B) (A ++ B))) := by
  refine (two_goes (R := fun n er w' => ∃ M, Grew w p F room st (L ++ M) w' ∧ CutQ L room (hi A + hi B) (A ++ B) M n er) _ (tree_is hA TA (by omega)) (fun W hb => tree_is (hA.below hb) TB (by omega)) (fun W hb => by have c := meet_tree (hA.below hb) TA TB; rw [meet_no hs] at c; exact c) (fun W hb => ?_)).mono ?_
  · refine (joined_tree p room st _ A B W l r L F (Nat.le_refl _) hs hl TA TB (hA.below hb)).mono ?_
    intro e w' hT
    obtain ⟨n, er, M, he, hg, hq⟩ := hT.since hb (fun k hk => hk)
    exact ⟨n, er, he, M, hg, hq⟩
  · rintro e w' ⟨n, er, he, M, hg, hq⟩
    exact ⟨n, er, M, he, hg, hq⟩
/-- One of both is nothing: it is the other one. -/
theorem two_left {B : List Pr} (hA : Arena w p F room st L) (TB : Tree L r B) (hl : B.length ≤ 1000) (hs : Srt B) :
    Calls Try.prog 27 #[.pointer (some ⟨p, 0, none⟩), .int .i64 0, .int .i64 r] w fun e w' => e = .returned (.tuple #[.int .i64 r, .int .i64 0]) ∧ Below w.heap.size w w' := by
  refine (two_goes (R := fun n er w' => n = r ∧ er = 0 ∧ Below w.heap.size w w') _ (tree_is hA .nil (by simp)) (fun W hb => tree_is (hA.below hb) TB hl) (fun W hb => by have c := meet_tree (hA.below hb) .nil TB; rw [meet_no (by simpa using hs)] at c; exact c) (fun W hb => ?_)).mono (by rintro e w' ⟨n, er, rfl, rfl, rfl, hb⟩; exact ⟨rfl, hb⟩)
  obtain ⟨k, v, x, y, s, h, b, cb⟩ := at_tree (hA.below hb) TB hs hl
  refine (joined_l (fun V hv => at_zero ((hA.below hb).below hv)) cb).mono ?_
  rintro e w' ⟨rfl, hb2⟩
  exact ⟨r, 0, rfl, rfl, rfl, hb.trans (hb2.mono hb.size)⟩
theorem two_right {A : List Pr} (hA : Arena w p F room st L) (TA : Tree L l A) (hl : A.length ≤ 1000) (hs : Srt A) :
    Calls Try.prog 27 #[.pointer (some ⟨p, 0, none⟩), .int .i64 l, .int .i64 0] w fun e w' => e = .returned (.tuple #[.int .i64 l, .int .i64 0]) ∧ Below w.heap.size w w' := by
  refine (two_goes (R := fun n er w' => n = l ∧ er = 0 ∧ Below w.heap.size w w') _ (tree_is hA TA hl) (fun W hb => tree_is (hA.below hb) .nil (by simp)) (fun W hb => by have c := meet_tree (hA.below hb) TA .nil; rw [meet_no (by simpa using hs)] at c; exact c) (fun W hb => ?_)).mono (by rintro e w' ⟨n, er, rfl, rfl, rfl, hb⟩; exact ⟨rfl, hb⟩)
  rcases TA.apart hs with ⟨rfl, rfl⟩ | ⟨x, y, A1, B1, q, rfl, AP⟩
  · refine (joined_l (fun V hv => at_zero ((hA.below hb).below hv)) (fun V hv => at_zero ((hA.below hb).below hv))).mono ?_
    rintro e w' ⟨rfl, hb2⟩
    exact ⟨0, 0, rfl, rfl, rfl, hb.trans (hb2.mono hb.size)⟩
  · obtain ⟨s, hh, c⟩ := at_apart2 (hA.below hb) AP (by simp at hl; omega)
    refine (joined_r c (fun V hv => at_zero ((hA.below hb).below hv))).mono ?_
    rintro e w' ⟨rfl, hb2⟩
    exact ⟨l, 0, rfl, rfl, rfl, hb.trans (hb2.mono hb.size)⟩
/-- Where there is room, in an arena that a law holds. -/
theorem two_ok {A B : List Pr} (h : Held w0 w p room st L) (TA : Tree L l A) (TB : Tree L r B) (hl : A.length + B.length ≤ 1000) (hs : Srt (A ++ B)) (hr : ((L.length + (hi A + hi B) : Nat) : Int) ≤ room) :
    Calls Try.prog 27 #[.pointer (some ⟨p, 0, none⟩), .int .i64 l, .int .i64 r] w fun e w' =>
      ∃ (n : Int) (M : List It), e = .returned (.tuple #[.int .i64 n, .int .i64 0]) ∧ Held w0 w' p room st (L ++ M) ∧ M.length ≤ hi A + hi B ∧ Tree (L ++ M) n (A ++ B) := by
  refine (two_any h.a TA TB hl hs).mono ?_
  rintro e w' ⟨n, er, M, rfl, hg, hq⟩
  rcases hq with ⟨rfl, hM, hT⟩ | ⟨rfl, hr2, hM⟩
  · exact ⟨n, M, rfl, h.grew hg (fun _ hk => hk), hM, hT⟩
  · exfalso
    rw [List.length_append] at hr2; omega
end
end Go.Proofs.Ytbmlpdkbiipcmaa
