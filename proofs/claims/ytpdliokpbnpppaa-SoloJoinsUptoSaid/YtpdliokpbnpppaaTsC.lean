/- osierref1.SameRaw. No condition: lemmas. osierref1.SameTree out of Plain; tree.Same. No condition: lemmas. osierlaw14.Light. No condition: lemmas. -/
import Derived.Test.YtpdliokpbnpppaaTsA
import Derived.Test.YtpdliokpbnpppaaTrS
import Derived.StillTailTactics
import Derived.Test.YtpdliokpbnpppaaTrA
namespace Go.Proofs.Ytpdliokpbnpppaa
open Go.RowKit
set_option linter.all false

end Go.Proofs.Ytpdliokpbnpppaa

namespace Go.Proofs.Ytpdliokpbnpppaa
open Go.RowKit
set_option linter.all false
attribute [local instance] Classical.propDecidable

set_option maxRecDepth 100000 in
set_option maxHeartbeats 6400000 in
theorem tsame_any (t u : Int) (a a2 : Option Addr) (cap cap2 : Nat) (N M : List Nd) (w : World) (h : Ns w a cap N) (h2 : Ns w a2 cap2 M) (hs : Small N) (hs2 : Small M) (x y : Bool) (P Q : List Nd) (hP : PlO N t x P) (hQ : PlO M u y Q) (B : Bool) (hB : B = true ↔ x = true ∧ y = true ∧ P = Q) :
    Calls Try.prog 14 #[trv t a cap N, trv u a2 cap2 M] w fun e w' => e = .returned (.bool B) ∧ Below w.heap.size w w' := by
  have b2 : Below w.heap.size w ((w.alloc (.cells #[.int .i64 t, .slice a N.length cap] 25)).alloc (.cells #[.int .i64 u, .slice a2 M.length cap2] 25)) := bel1 (al1 _) _
  have c1 := tplain_any t a cap N _ (h.keep b2) hs x P hP
  have c2 := fun W hW => tplain_any u a2 cap2 M W (h2.keep hW) hs2 y Q hQ
  have G1 := Lib.hid (Bk.past (Bk.new w #[.int .i64 t, .slice a N.length cap] 25) (.cells #[.int .i64 u, .slice a2 M.length cap2] 25))
  have G2 := Lib.hid (show Bk ((w.alloc (.cells #[.int .i64 t, .slice a N.length cap] 25)).alloc (.cells #[.int .i64 u, .slice a2 M.length cap2] 25)) (w.heap.size + 1) [.int .i64 u, .slice a2 M.length cap2] from by
    have h := Bk.new (w.alloc (.cells #[.int .i64 t, .slice a N.length cap] 25)) #[.int .i64 u, .slice a2 M.length cap2] 25
    simp only [World.size_alloc] at h; exact h)
  have HBW := Lib.hid b2
  have cs := fun (W : World) ao c ao2 c2 (hp : Ns W ao c P) (hq : Ns W ao2 c2 Q) => eqf_any ao ao2 c c2 P Q W hp hq (decide (P = Q)) (by simp)
  obtain rfl : B = (x && y && decide (P = Q)) := by
    cases B <;> cases x <;> cases y <;> simp_all
  unfold PlB at c1 c2
  unfold trv at c1 c2 ⊢
  clear b2 h h2 hB hP hQ hs hs2
  cases x <;> cases y
  all_goals
    simp only [Bool.and_true, Bool.true_and, Bool.and_false, Bool.false_and]
    go_enter Try.func14, Try.ntmps14
    go_wp2_with (first
      | (go_at_call 26; ((with_reducible refine c1.mono ?_); clear c1; rintro e w3 ⟨ao, c, rfl, hn3, hb3⟩; have R1 := Lib.hid ((G1.out.keep hb3).past (.cells #[.int .i64 0, .slice ao P.length c] 25)); have R2 := Lib.hid ((G2.out.keep hb3).past (.cells #[.int .i64 0, .slice ao P.length c] 25)); have R3 := Lib.hid (Bk.new w3 #[.int .i64 0, .slice ao P.length c] 25); have HB3 := Lib.hid (bel1 (bel2 HBW.out hb3) (.cells #[.int .i64 0, .slice ao P.length c] 25)); have HN3 := Lib.hid (hn3.keep (al1 (.cells #[.int .i64 0, .slice ao P.length c] 25))); have l0 := R2.out.at_ 0 _ rfl; have l1 := R2.out.at_ 1 _ rfl; clear hb3 hn3))
      | (go_at_call 26; ((with_reducible refine (c2 _ HB3.out).mono ?_); clear c2 l0 l1; rintro e w4 ⟨ao2, cc2, rfl, hn4, hb4⟩; have R4 := Lib.hid ((R3.out.keep hb4).past (.cells #[.int .i64 0, .slice ao2 Q.length cc2] 25)); have HB4 := Lib.hid (bel1 (bel2 HB3.out hb4) (.cells #[.int .i64 0, .slice ao2 Q.length cc2] 25)); have HN4 := Lib.hid (hn4.keep (al1 (.cells #[.int .i64 0, .slice ao2 Q.length cc2] 25))); have HN5 := Lib.hid ((HN3.out.keep hb4).keep (al1 (.cells #[.int .i64 0, .slice ao2 Q.length cc2] 25))); have k0 := R4.out.at_ 0 _ rfl; have k1 := R4.out.at_ 1 _ rfl; clear hb4 hn4))
      | (go_at_call 34; ((with_reducible refine (cs _ _ _ _ _ HN5.out HN4.out).mono ?_); clear cs; rintro e w6 ⟨rfl, hb6⟩; have HB6 := Lib.hid (bel2 HB4.out hb6); clear hb6))
      | fail)
    go_ret
    first | exact ⟨rfl, HB6.out⟩ | exact ⟨rfl, HB4.out⟩ | exact ⟨by simp, HB6.out⟩
end Go.Proofs.Ytpdliokpbnpppaa

namespace Go.Proofs.Ytpdliokpbnpppaa
open Go.RowKit
set_option linter.all false

/-- So many pairs in the first n nodes. -/
def psum (N : List Nd) (n : Nat) : Nat := ((N.take n).map (fun z => z.p.length)).sum
theorem psum_succ {N : List Nd} {n : Nat} {x : Nd} (hx : N[n]? = some x) : psum N (n + 1) = psum N n + x.p.length := by
  unfold psum
  rw [List.take_add_one, hx]
  simp
theorem psum_le {N : List Nd} (hm : Mid N) : ∀ n, psum N n ≤ n * 8796093022208 := by
  intro n
  induction n with
  | zero => simp [psum]
  | succ n ih =>
    rcases Nat.lt_or_ge n N.length with h | h
    · obtain ⟨x, hx⟩ : ∃ x, N[n]? = some x := ⟨_, List.getElem?_eq_getElem h⟩
      rw [psum_succ hx]
      have := hm x (List.mem_of_getElem? hx)
      omega
    · have : psum N (n + 1) = psum N n := by unfold psum; rw [List.take_of_length_le (by omega), List.take_of_length_le h]
      omega
theorem sum_mem {f : Nd → Nat} : ∀ {N : List Nd} {x : Nd}, x ∈ N → f x ≤ (N.map f).sum := by
  intro N
  induction N with
  | nil => intro x h; cases h
  | cons y l ih =>
    intro x h
    rw [List.map_cons, List.sum_cons]
    rcases List.mem_cons.1 h with rfl | h
    · omega
    · have := ih h; omega
/-- Few nodes, few pairs. -/
def Lgt (N : List Nd) : Prop := N.length ≤ 450 ∧ psum N N.length ≤ 2000
theorem Lgt.small {N : List Nd} (h : Lgt N) : Small N := ⟨by have := h.1; omega, fun n hn => by
  have h1 := sum_mem (f := fun z => z.p.length) hn
  have h2 := h.2
  unfold psum at h2
  rw [List.take_length] at h2
  omega⟩
theorem wrap_sum {S l : Nat} (h : S ≤ 450 * 8796093022208) (h2 : l ≤ 8796093022208) : wrap64 ((S : Int) + (l : Int)) = ((S + l : Nat) : Int) := by unfold wrap64; omega
theorem psum_w {N : List Nd} (hm : Mid N) {n : Nat} (hn : n ≤ 450) {x : Nd} (hx : N[n]? = some x) : wrap64 ((psum N n : Int) + (x.p.length : Int)) = ((psum N (n + 1) : Nat) : Int) := by
  rw [psum_succ hx]
  exact wrap_sum (Nat.le_trans (psum_le hm n) (Nat.mul_le_mul_right _ hn)) (hm x (List.mem_of_getElem? hx))
set_option maxRecDepth 100000 in
set_option maxHeartbeats 6400000 in
theorem light_yes (t : Int) (a : Option Addr) (cap : Nat) (N : List Nd) (w : World) (hN : Ns w a cap N) (hm : Mid N) (hl : N.length ≤ 450) (L : Int) (hL : L = if psum N N.length ≤ 2000 then 0 else 1) :
    Calls Try.prog 7 #[trv t a cap N] w fun e w' => e = .returned (.int .i64 L) ∧ Below w.heap.size w w' := by
  have b1 : Below w.heap.size w (w.alloc (.cells #[.int .i64 t, .slice a N.length cap] 25)) := al1 _
  have HB := Lib.hid b1
  have HN := Lib.hid (hN.keep b1)
  have HM := Lib.hid hm
  have HL := Lib.hid hL
  have G1 := Lib.hid (Bk.new w #[.int .i64 t, .slice a N.length cap] 25)
  unfold trv
  clear b1 hN hm hL
  go_enter Try.func7, Try.ntmps7
  go_wp2_with (fail)
  obtain ⟨W, hW⟩ : ∃ W, (w.alloc (.cells #[.int .i64 t, .slice a N.length cap] 25)) = W := ⟨_, rfl⟩
  rw [hW] at G1 HN HB ⊢
  clear hW
  go_loopw [9, 3] (fun i x wr => ∃ n : Nat, n ≤ N.length ∧ i = .int .i64 n ∧ x = .int .i64 (psum N n : Nat) ∧ Below W.heap.size W wr) (fun i _ _ => N.length - (intOf i).toNat)
  case atStart => exact ⟨0, Nat.zero_le _, rfl, rfl, Below.refl _ _⟩
  case round =>
    obtain ⟨n, hn, rfl, rfl, hb⟩ := hrel
    have HBR := Lib.hid hb
    by_cases hlt : n < N.length
    · obtain ⟨x, hx⟩ : ∃ x, N[n]? = some x := ⟨_, List.getElem?_eq_getElem hlt⟩
      obtain ⟨b, o, pa, pc, rfl, hx1⟩ := (HN.out.keep hb).2.2 n x hx
      have hn0 : (0 : Int) ≤ (n : Int) := by omega
      have hnl : (n : Int) < (N.length : Int) := by omega
      have hw := psum_w HM.out (Nat.le_trans hn hl) hx
      obtain ⟨e0, e1, e2, e3, e4, e5, -⟩ := hx1
      obtain ⟨r, k, l, bb, p, s⟩ := x
      dsimp only at e0 e1 e2 e3 e4 e5 hw
      clear hx hb
      go_wp2_with (fail)
      go_roundw
      case rel => exact ⟨n + 1, by omega, by go_num, by rw [hw], bel2 HBR.out (al1 _)⟩
      case measure => simp [intOf]; omega
    · obtain rfl : n = N.length := by omega
      have k1 := (G1.out.keep hb).at_ 1 _ rfl
      by_cases hs : (2000 : Int) < ((psum N N.length : Nat) : Int)
      · have hL : L = 1 := by rw [HL.out, if_neg (by omega)]
        subst hL
        generalize psum N N.length = S1 at *
        go_wp2_with (fail)
        go_ret
        exact ⟨rfl, bel2 HB.out HBR.out⟩
      · have hL : L = 0 := by rw [HL.out, if_pos (by omega)]
        subst hL
        generalize psum N N.length = S1 at *
        go_wp2_with (fail)
        go_ret
        exact ⟨rfl, bel2 HB.out HBR.out⟩
set_option maxRecDepth 100000 in
set_option maxHeartbeats 6400000 in
theorem light_big (t : Int) (a : Option Addr) (cap : Nat) (N : List Nd) (w : World) (hN : Ns w a cap N) (hl : ¬ N.length ≤ 450) :
    Calls Try.prog 7 #[trv t a cap N] w fun e w' => e = .returned (.int .i64 1) ∧ Below w.heap.size w w' := by
  have b1 : Below w.heap.size w (w.alloc (.cells #[.int .i64 t, .slice a N.length cap] 25)) := al1 _
  have HB := Lib.hid b1
  have HN := Lib.hid (hN.keep b1)
  have hc1 := hN.1
  have hc2 := hN.2.1
  unfold maxLen at hc2
  have hbig : (450 : Int) < (N.length : Int) := by omega
  have G1 := Lib.hid (Bk.new w #[.int .i64 t, .slice a N.length cap] 25)
  unfold trv
  clear b1 hN hl
  go_enter Try.func7, Try.ntmps7
  go_wp2_with (fail)
  obtain ⟨W, hW⟩ : ∃ W, (w.alloc (.cells #[.int .i64 t, .slice a N.length cap] 25)) = W := ⟨_, rfl⟩
  rw [hW] at G1 HN HB ⊢
  clear hW
  go_loopw [9, 3] (fun i x wr => ∃ (n : Nat) (v : Int), n ≤ N.length ∧ i = .int .i64 n ∧ x = .int .i64 v ∧ Below W.heap.size W wr) (fun i _ _ => N.length - (intOf i).toNat)
  case atStart => exact ⟨0, 0, Nat.zero_le _, rfl, rfl, Below.refl _ _⟩
  case round =>
    obtain ⟨n, v, hn, rfl, rfl, hb⟩ := hrel
    have HBR := Lib.hid hb
    by_cases hlt : n < N.length
    · obtain ⟨x, hx⟩ : ∃ x, N[n]? = some x := ⟨_, List.getElem?_eq_getElem hlt⟩
      obtain ⟨b, o, pa, pc, rfl, hx1⟩ := (HN.out.keep hb).2.2 n x hx
      have hn0 : (0 : Int) ≤ (n : Int) := by omega
      have hnl : (n : Int) < (N.length : Int) := by omega
      obtain ⟨e0, e1, e2, e3, e4, e5, -⟩ := hx1
      obtain ⟨r, k, l, bb, p, s⟩ := x
      dsimp only at e0 e1 e2 e3 e4 e5
      clear hx hb
      go_wp2_with (fail)
      go_roundw
      case rel => exact ⟨n + 1, _, by omega, by go_num, rfl, bel2 HBR.out (al1 _)⟩
      case measure => simp [intOf]; omega
    · obtain rfl : n = N.length := by omega
      have k1 := (G1.out.keep hb).at_ 1 _ rfl
      go_wp2_with (fail)
      go_ret
      exact ⟨rfl, bel2 HB.out HBR.out⟩
theorem light_any (t : Int) (a : Option Addr) (cap : Nat) (N : List Nd) (w : World) (hN : Ns w a cap N) (hm : Mid N) (L : Int) (h1 : Lgt N → L = 0) (h2 : ¬ Lgt N → L = 1) :
    Calls Try.prog 7 #[trv t a cap N] w fun e w' => e = .returned (.int .i64 L) ∧ Below w.heap.size w w' := by
  by_cases hl : N.length ≤ 450
  · refine light_yes t a cap N w hN hm hl L ?_
    split
    · exact h1 ⟨hl, by assumption⟩
    · exact h2 (fun h => absurd h.2 (by assumption))
  · obtain rfl := h2 (fun h => hl h.1)
    exact light_big t a cap N w hN hl
end Go.Proofs.Ytpdliokpbnpppaa

