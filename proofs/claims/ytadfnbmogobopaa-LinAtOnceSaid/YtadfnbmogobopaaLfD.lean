/- leaf.within, updated over sorted pairs. No condition: lemmas. -/
import Derived.Test.YtadfnbmogobopaaLfC
namespace Go.Proofs.Ytadfnbmogobopaa
open Go.RowKit
set_option linter.all false

def SlIs (w : World) (L : List Pr) (e : Ending) (w' : World) : Prop := ∃ a' cap', e = .returned (.slice a' L.length cap') ∧ Prs w' a' cap' L ∧ Below w.heap.size w w'
theorem prs_sub {w : World} {a : Option Addr} {cap : Nat} {l : List Pr} (h : Prs w a cap l) (m x : Nat) (h1 : m ≤ x) (h2 : x ≤ l.length) (hc : ¬ cap = m) :
    Prs w (Option.map (fun z => z.add (m * 2)) a) (cap - m) ((l.drop m).take (x - m)) ∧ ((l.drop m).take (x - m)).length = x - m := by
  have hl : ((l.drop m).take (x - m)).length = x - m := by rw [List.length_take, List.length_drop]; omega
  have h3 := h.1
  have h4 := h.2.1
  refine ⟨⟨by rw [hl]; omega, by omega, fun n q hq => ?_, fun e => ?_⟩, hl⟩
  · have hlt := (List.getElem?_eq_some_iff.1 hq).1
    rw [List.getElem?_take_of_lt (by omega), List.getElem?_drop] at hq
    obtain ⟨b, o, rfl, c0, c1⟩ := h.2.2.1 _ q hq
    refine ⟨b, o + m * 2, by simp [add_lit], ?_, ?_⟩
    · rw [show o + m * 2 + n * 2 = o + (m + n) * 2 by omega]; exact c0
    · rw [show o + m * 2 + n * 2 = o + (m + n) * 2 by omega]; exact c1
  · cases a with
    | none => have := h.2.2.2 rfl; omega
    | some ad => cases e
theorem prs_empty {w : World} {a : Option Addr} {cap c : Nat} {l : List Pr} (h : Prs w a cap l) (hc : c ≤ cap) : Prs w a c [] :=
  ⟨Nat.zero_le _, by have := h.2.1; omega, fun n q hq => by simp at hq, fun e => by have := h.2.2.2 e; omega⟩

set_option maxHeartbeats 3200000 in
theorem within_core (a : Option Addr) (cap : Nat) (l : List Pr) (lo hi : Int) (w : World) (h : Prs w a cap l) (hl : l.length ≤ 100000000000) (m n : Nat) (L : Lo l lo m) (L2 : Lo l hi n) (B1 B2 : Bool) (h1 : hasB l lo m = B1) (h2 : hasB l hi n = B2) (t x : Nat) (ht : bh n B2 = t) (hx : max m t = x) (R : List Pr) (hR : (l.drop m).take (x - m) = R) :
    Calls Try.prog 70 #[.slice a l.length cap, .int .i64 lo, .int .i64 hi] w (SlIs w R) := by
  have c1 := fun w h => place_any a cap l lo w h hl m L B1 h1
  have c2 := fun w h => place_any a cap l hi w h hl n L2 B2 h2
  have ht2 : t ≤ l.length := by subst h2; subst ht; exact bh_le L2
  have hml := L.le
  have hmx : m ≤ x := by omega
  have hxl : x ≤ l.length := by omega
  have HH := Lib.hid h
  have hc := h.1
  have hc2 := h.2.1
  unfold maxLen at hc2
  clear h L L2 h1 h2
  cases B2
  · simp only [bh, Bool.false_eq_true, if_false, if_true] at ht
    subst ht
    by_cases hmt : m < n
    · obtain rfl : n = x := by omega
      have hcm : ¬ cap = m := by omega
      obtain ⟨hP, hL⟩ := prs_sub HH.out m n hmx hxl hcm
      have hmt2 : (m : Int) < (n : Int) := by omega
      have hk1 : (n : Int) ≤ (cap : Int) := by omega
      have hk0 : (0 : Int) ≤ (m : Int) := by omega
      rw [hR] at hP hL
      have HP := Lib.hid hP
      have HL := Lib.hid hL
      clear hP hL hR hx
      go_enter Try.func70, Try.ntmps70
      go_wp2_with (first
        | (go_at_call 68; ((with_reducible refine (c1 _ HH.out).mono ?_); clear c1; rintro e w2 ⟨rfl, hb2⟩))
        | (go_at_call 68; ((with_reducible refine (c2 _ (HH.out.below hb2)).mono ?_); clear c2; rintro e w3 ⟨rfl, hb3⟩)))
      go_ret
      exact ⟨_, _, by rw [HL.out]; rfl, (HP.out.below hb2).below hb3, hb2.trans (hb3.mono hb2.size)⟩
    · obtain rfl : m = x := by omega
      rw [Nat.sub_self, List.take_zero] at hR
      subst hR
      have hmt2 : ¬ (m : Int) < (n : Int) := by omega
      by_cases hcm : cap = m
      · have HP := Lib.hid (prs_empty (c := 0) HH.out (Nat.zero_le _))
        clear hx
        subst hcm
        go_enter Try.func70, Try.ntmps70
        go_wp2_with (first
          | (go_at_call 68; ((with_reducible refine (c1 _ HH.out).mono ?_); clear c1; rintro e w2 ⟨rfl, hb2⟩))
          | (go_at_call 68; ((with_reducible refine (c2 _ (HH.out.below hb2)).mono ?_); clear c2; rintro e w3 ⟨rfl, hb3⟩)))
        go_ret
        exact ⟨_, _, rfl, (HP.out.below hb2).below hb3, hb2.trans (hb3.mono hb2.size)⟩
      · obtain ⟨hP, hL⟩ := prs_sub HH.out m m hmx hxl hcm
        rw [Nat.sub_self, List.take_zero] at hP
        have HP := Lib.hid hP
        clear hP hL hx
        have hk1 : (m : Int) ≤ (cap : Int) := by omega
        have hk0 : (0 : Int) ≤ (m : Int) := by omega
        go_enter Try.func70, Try.ntmps70
        go_wp2_with (first
          | (go_at_call 68; ((with_reducible refine (c1 _ HH.out).mono ?_); clear c1; rintro e w2 ⟨rfl, hb2⟩))
          | (go_at_call 68; ((with_reducible refine (c2 _ (HH.out.below hb2)).mono ?_); clear c2; rintro e w3 ⟨rfl, hb3⟩)))
        go_ret
        exact ⟨_, _, rfl, (HP.out.below hb2).below hb3, hb2.trans (hb3.mono hb2.size)⟩
  · simp only [bh, Bool.false_eq_true, if_false, if_true] at ht
    have hw1 : wrap64 ((n : Int) + 1) = (t : Int) := by unfold wrap64; omega
    by_cases hmt : m < t
    · obtain rfl : t = x := by omega
      have hcm : ¬ cap = m := by omega
      obtain ⟨hP, hL⟩ := prs_sub HH.out m t hmx hxl hcm
      have hmt2 : (m : Int) < (t : Int) := by omega
      have hk1 : (t : Int) ≤ (cap : Int) := by omega
      have hk0 : (0 : Int) ≤ (m : Int) := by omega
      rw [hR] at hP hL
      have HP := Lib.hid hP
      have HL := Lib.hid hL
      clear hP hL hR hx
      go_enter Try.func70, Try.ntmps70
      go_wp2_with (first
        | (go_at_call 68; ((with_reducible refine (c1 _ HH.out).mono ?_); clear c1; rintro e w2 ⟨rfl, hb2⟩))
        | (go_at_call 68; ((with_reducible refine (c2 _ (HH.out.below hb2)).mono ?_); clear c2; rintro e w3 ⟨rfl, hb3⟩)))
      go_ret
      exact ⟨_, _, by rw [HL.out]; rfl, (HP.out.below hb2).below hb3, hb2.trans (hb3.mono hb2.size)⟩
    · obtain rfl : m = x := by omega
      rw [Nat.sub_self, List.take_zero] at hR
      subst hR
      have hmt2 : ¬ (m : Int) < (t : Int) := by omega
      by_cases hcm : cap = m
      · have HP := Lib.hid (prs_empty (c := 0) HH.out (Nat.zero_le _))
        clear hx
        subst hcm
        go_enter Try.func70, Try.ntmps70
        go_wp2_with (first
          | (go_at_call 68; ((with_reducible refine (c1 _ HH.out).mono ?_); clear c1; rintro e w2 ⟨rfl, hb2⟩))
          | (go_at_call 68; ((with_reducible refine (c2 _ (HH.out.below hb2)).mono ?_); clear c2; rintro e w3 ⟨rfl, hb3⟩)))
        go_ret
        exact ⟨_, _, rfl, (HP.out.below hb2).below hb3, hb2.trans (hb3.mono hb2.size)⟩
      · obtain ⟨hP, hL⟩ := prs_sub HH.out m m hmx hxl hcm
        rw [Nat.sub_self, List.take_zero] at hP
        have HP := Lib.hid hP
        clear hP hL hx
        have hk1 : (m : Int) ≤ (cap : Int) := by omega
        have hk0 : (0 : Int) ≤ (m : Int) := by omega
        go_enter Try.func70, Try.ntmps70
        go_wp2_with (first
          | (go_at_call 68; ((with_reducible refine (c1 _ HH.out).mono ?_); clear c1; rintro e w2 ⟨rfl, hb2⟩))
          | (go_at_call 68; ((with_reducible refine (c2 _ (HH.out.below hb2)).mono ?_); clear c2; rintro e w3 ⟨rfl, hb3⟩)))
        go_ret
        exact ⟨_, _, rfl, (HP.out.below hb2).below hb3, hb2.trans (hb3.mono hb2.size)⟩

/-- leaf.within of sorted pairs. -/
theorem lwithin_any (a : Option Addr) (cap : Nat) (l : List Pr) (lo hi : Int) (w : World) (h : Prs w a cap l) (hs : Srt l) (hl : l.length ≤ 100000000000) :
    Calls Try.prog 70 #[.slice a l.length cap, .int .i64 lo, .int .i64 hi] w (SlIs w (rngL l lo hi)) :=
  within_core a cap l lo hi w h hl _ _ (lo_pl hs lo) (lo_pl hs hi) _ _ rfl rfl _ _ rfl rfl _ (rng_at hs (lo_pl hs lo) (lo_pl hs hi) rfl)
end Go.Proofs.Ytadfnbmogobopaa
