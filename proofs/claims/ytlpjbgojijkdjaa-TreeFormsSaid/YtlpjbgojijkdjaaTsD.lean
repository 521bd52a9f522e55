/- osierref1.SameTree out of Plain; tree.Same. No condition: lemmas. -/
import Derived.Test.YtlpjbgojijkdjaaTsC
namespace Go.Proofs.Ytlpjbgojijkdjaa
open Go.RowKit
set_option linter.all false
attribute [local instance] Classical.propDecidable

set_option maxRecDepth 100000 in
set_option maxHeartbeats 6400000 in
theorem rsametree_gen (t u : Int) (a a2 : Option Addr) (cap cap2 : Nat) (N M : List Nd) (w : World) (h : Ns w a cap N) (h2 : Ns w a2 cap2 M) (x y : Bool) (P Q : List Nd) (hP : P.length ≤ 1000000) (hQ : Q.length ≤ 1000000) (cp : RP t a cap N x P) (cq : RP u a2 cap2 M y Q) (B : Bool) (hB : B = true ↔ x = true ∧ y = true ∧ P = Q) :
    Calls Try.prog 18 #[trv t a cap N, trv u a2 cap2 M] w fun e w' => e = .returned (.bool B) ∧ Below w.heap.size w w' := by
  have b2 : Below w.heap.size w ((w.alloc (.cells #[.int .i64 t, .slice a N.length cap] 24)).alloc (.cells #[.int .i64 u, .slice a2 M.length cap2] 24)) := bel1 (al1 _) _
  have c1 := cp _ (h.keep b2)
  have c2 := fun W hW => cq W (h2.keep hW)
  have G1 := Lib.hid (Bk.past (Bk.new w #[.int .i64 t, .slice a N.length cap] 24) (.cells #[.int .i64 u, .slice a2 M.length cap2] 24))
  have G2 := Lib.hid (show Bk ((w.alloc (.cells #[.int .i64 t, .slice a N.length cap] 24)).alloc (.cells #[.int .i64 u, .slice a2 M.length cap2] 24)) (w.heap.size + 1) [.int .i64 u, .slice a2 M.length cap2] from by
    have h := Bk.new (w.alloc (.cells #[.int .i64 t, .slice a N.length cap] 24)) #[.int .i64 u, .slice a2 M.length cap2] 24
    simp only [World.size_alloc] at h; exact h)
  have HBW := Lib.hid b2
  have cs := fun (W : World) ao c ao2 c2 (hp : Ns W ao c P) (hq : Ns W ao2 c2 Q) => sraw_any 0 0 ao ao2 c c2 P Q W hp hq hP hQ (decide (P = Q)) (by simp)
  obtain rfl : B = (x && y && decide (P = Q)) := by
    cases B <;> cases x <;> cases y <;> simp_all
  unfold PlB at c1 c2
  unfold trv at c1 c2 cs ⊢
  clear b2 h h2 hB cp cq
  cases x <;> cases y
  all_goals
    simp only [Bool.and_true, Bool.true_and, Bool.and_false, Bool.false_and]
    go_enter Try.func18, Try.ntmps18
    go_wp2_with (first
      | (go_at_call 12; ((with_reducible refine c1.mono ?_); clear c1; rintro e w3 ⟨ao, c, rfl, hn3, hb3⟩; have R1 := Lib.hid ((G1.out.keep hb3).past (.cells #[.int .i64 0, .slice ao P.length c] 24)); have R2 := Lib.hid ((G2.out.keep hb3).past (.cells #[.int .i64 0, .slice ao P.length c] 24)); have R3 := Lib.hid (Bk.new w3 #[.int .i64 0, .slice ao P.length c] 24); have HB3 := Lib.hid (bel1 (bel2 HBW.out hb3) (.cells #[.int .i64 0, .slice ao P.length c] 24)); have HN3 := Lib.hid (hn3.keep (al1 (.cells #[.int .i64 0, .slice ao P.length c] 24))); have l0 := R2.out.at_ 0 _ rfl; have l1 := R2.out.at_ 1 _ rfl; clear hb3 hn3))
      | (go_at_call 12; ((with_reducible refine (c2 _ HB3.out).mono ?_); clear c2 l0 l1; rintro e w4 ⟨ao2, cc2, rfl, hn4, hb4⟩; have R4 := Lib.hid ((R3.out.keep hb4).past (.cells #[.int .i64 0, .slice ao2 Q.length cc2] 24)); have HB4 := Lib.hid (bel1 (bel2 HB3.out hb4) (.cells #[.int .i64 0, .slice ao2 Q.length cc2] 24)); have HN4 := Lib.hid (hn4.keep (al1 (.cells #[.int .i64 0, .slice ao2 Q.length cc2] 24))); have HN5 := Lib.hid ((HN3.out.keep hb4).keep (al1 (.cells #[.int .i64 0, .slice ao2 Q.length cc2] 24))); have k0 := R4.out.at_ 0 _ rfl; have k1 := R4.out.at_ 1 _ rfl; clear hb4 hn4))
      | (go_at_call 15; ((with_reducible refine (cs _ _ _ _ _ HN5.out HN4.out).mono ?_); clear cs; rintro e w6 ⟨rfl, hb6⟩; have HB6 := Lib.hid (bel2 HB4.out hb6); clear hb6))
      | fail)
    go_ret
    first | exact ⟨rfl, HB6.out⟩ | exact ⟨rfl, HB4.out⟩ | exact ⟨by simp, HB6.out⟩
set_option maxRecDepth 100000 in
set_option maxHeartbeats 6400000 in
theorem tsame_any (t u : Int) (a a2 : Option Addr) (cap cap2 : Nat) (N M : List Nd) (w : World) (h : Ns w a cap N) (h2 : Ns w a2 cap2 M) (hs : Small N) (hs2 : Small M) (x y : Bool) (P Q : List Nd) (hP : PlO N t x P) (hQ : PlO M u y Q) (B : Bool) (hB : B = true ↔ x = true ∧ y = true ∧ P = Q) :
    Calls Try.prog 17 #[trv t a cap N, trv u a2 cap2 M] w fun e w' => e = .returned (.bool B) ∧ Below w.heap.size w w' := by
  have b2 : Below w.heap.size w ((w.alloc (.cells #[.int .i64 t, .slice a N.length cap] 24)).alloc (.cells #[.int .i64 u, .slice a2 M.length cap2] 24)) := bel1 (al1 _) _
  have c1 := tplain_any t a cap N _ (h.keep b2) hs x P hP
  have c2 := fun W hW => tplain_any u a2 cap2 M W (h2.keep hW) hs2 y Q hQ
  have G1 := Lib.hid (Bk.past (Bk.new w #[.int .i64 t, .slice a N.length cap] 24) (.cells #[.int .i64 u, .slice a2 M.length cap2] 24))
  have G2 := Lib.hid (show Bk ((w.alloc (.cells #[.int .i64 t, .slice a N.length cap] 24)).alloc (.cells #[.int .i64 u, .slice a2 M.length cap2] 24)) (w.heap.size + 1) [.int .i64 u, .slice a2 M.length cap2] from by
    have h := Bk.new (w.alloc (.cells #[.int .i64 t, .slice a N.length cap] 24)) #[.int .i64 u, .slice a2 M.length cap2] 24
    simp only [World.size_alloc] at h; exact h)
  have HBW := Lib.hid b2
  have cs := fun (W : World) ao c ao2 c2 (hp : Ns W ao c P) (hq : Ns W ao2 c2 Q) => eqf_any ao ao2 c c2 P Q W hp hq (decide (P = Q)) (by simp)
  obtain rfl : B = (x && y && decide (P = Q)) := by
    cases B <;> cases x <;> cases y <;> simp_all
  unfold PlB at c1 c2
  unfold trv at c1 c2 ⊢
  clear b2 h h2 hB hP hQ hs hs2
  cases x <;> cases y
  all_goals
    simp only [Bool.and_true, Bool.true_and, Bool.and_false, Bool.false_and]
    go_enter Try.func17, Try.ntmps17
    go_wp2_with (first
      | (go_at_call 11; ((with_reducible refine c1.mono ?_); clear c1; rintro e w3 ⟨ao, c, rfl, hn3, hb3⟩; have R1 := Lib.hid ((G1.out.keep hb3).past (.cells #[.int .i64 0, .slice ao P.length c] 24)); have R2 := Lib.hid ((G2.out.keep hb3).past (.cells #[.int .i64 0, .slice ao P.length c] 24)); have R3 := Lib.hid (Bk.new w3 #[.int .i64 0, .slice ao P.length c] 24); have HB3 := Lib.hid (bel1 (bel2 HBW.out hb3) (.cells #[.int .i64 0, .slice ao P.length c] 24)); have HN3 := Lib.hid (hn3.keep (al1 (.cells #[.int .i64 0, .slice ao P.length c] 24))); have l0 := R2.out.at_ 0 _ rfl; have l1 := R2.out.at_ 1 _ rfl; clear hb3 hn3))
      | (go_at_call 11; ((with_reducible refine (c2 _ HB3.out).mono ?_); clear c2 l0 l1; rintro e w4 ⟨ao2, cc2, rfl, hn4, hb4⟩; have R4 := Lib.hid ((R3.out.keep hb4).past (.cells #[.int .i64 0, .slice ao2 Q.length cc2] 24)); have HB4 := Lib.hid (bel1 (bel2 HB3.out hb4) (.cells #[.int .i64 0, .slice ao2 Q.length cc2] 24)); have HN4 := Lib.hid (hn4.keep (al1 (.cells #[.int .i64 0, .slice ao2 Q.length cc2] 24))); have HN5 := Lib.hid ((HN3.out.keep hb4).keep (al1 (.cells #[.int .i64 0, .slice ao2 Q.length cc2] 24))); have k0 := R4.out.at_ 0 _ rfl; have k1 := R4.out.at_ 1 _ rfl; clear hb4 hn4))
      | (go_at_call 42; ((with_reducible refine (cs _ _ _ _ _ HN5.out HN4.out).mono ?_); clear cs; rintro e w6 ⟨rfl, hb6⟩; have HB6 := Lib.hid (bel2 HB4.out hb6); clear hb6))
      | fail)
    go_ret
    first | exact ⟨rfl, HB6.out⟩ | exact ⟨rfl, HB4.out⟩ | exact ⟨by simp, HB6.out⟩
#print axioms rsametree_gen
#print axioms tsame_any
end Go.Proofs.Ytlpjbgojijkdjaa
