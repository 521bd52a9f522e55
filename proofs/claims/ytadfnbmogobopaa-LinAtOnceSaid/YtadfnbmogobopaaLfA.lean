/- The library's functions on rows of pairs: slices.IndexFunc, Equal, BinarySearchFunc (with cmp.Compare), Grow, Concat, as package leaf calls them. No condition: lemmas. -/
import Derived.Test.YtadfnbmogobopaaRfG
import Derived.Lib.AppendZerosOnto
namespace Go.Proofs.Ytadfnbmogobopaa
open Go.RowKit
set_option linter.all false

theorem nan_any (a : Int) (w : World) : Calls Try.prog 53 #[.int .i64 a] w fun e w' => e = .returned (.bool false) ∧ w' = w := by
  go_enter Try.func53, Try.ntmps53
  go_wp2_with (fail)
  go_ret
  exact ⟨by simp, rfl⟩

/-- cmp.Compare on two numbers. -/
def cmpI (a b : Int) : Int := if a < b then -1 else if b < a then 1 else 0
theorem cmp_any (a b : Int) (w : World) : Calls Try.prog 40 #[.int .i64 a, .int .i64 b] w fun e w' => e = .returned (.int .i64 (cmpI a b)) ∧ w' = w := by
  have c := fun x => nan_any x w
  unfold cmpI
  by_cases h1 : a < b
  · rw [if_pos h1]
    go_enter Try.func40, Try.ntmps40
    go_wp2_with (go_at_call 53; ((with_reducible refine (c _).mono ?_); rintro e w' ⟨rfl, rfl⟩))
    go_ret
    exact ⟨rfl, rfl⟩
  · rw [if_neg h1]
    by_cases h2 : b < a
    · rw [if_pos h2]
      go_enter Try.func40, Try.ntmps40
      go_wp2_with (go_at_call 53; ((with_reducible refine (c _).mono ?_); rintro e w' ⟨rfl, rfl⟩))
      go_ret
      exact ⟨rfl, rfl⟩
    · rw [if_neg h2]
      go_enter Try.func40, Try.ntmps40
      go_wp2_with (go_at_call 53; ((with_reducible refine (c _).mono ?_); rintro e w' ⟨rfl, rfl⟩))
      go_ret
      exact ⟨rfl, rfl⟩

theorem place1_any (k v t : Int) (w : World) : Calls Try.prog 73 #[.agg #[.int .i64 k, .int .i64 v], .int .i64 t] w fun e w' => e = .returned (.int .i64 (cmpI k t)) ∧ Below w.heap.size w w' := by
  have c := fun W => cmp_any k t W
  have b0 : Below w.heap.size w (w.alloc (.cells #[.int .i64 k, .int .i64 v] 32)) := (Below.refl _ _).alloc (Nat.le_refl _) _
  go_enter Try.func73, Try.ntmps73
  go_wp2_with (go_at_call 40; ((with_reducible refine (c _).mono ?_); rintro e w' ⟨rfl, rfl⟩))
  go_ret
  exact ⟨rfl, b0⟩

theorem find1_any (k v t : Int) (g : Nat) (w : World) (hg : w.cell? ⟨g, 0, none⟩ = some (.int .i64 t)) (B : Bool) (hB : (k == t) = B) : Calls Try.prog 58 #[.agg #[.int .i64 k, .int .i64 v], .pointer (some ⟨g, 0, none⟩)] w fun e w' => e = .returned (.bool B) ∧ Below w.heap.size w w' := by
  have b0 : Below w.heap.size w (w.alloc (.cells #[.int .i64 k, .int .i64 v] 32)) := (Below.refl _ _).alloc (Nat.le_refl _) _
  have g1 := cell_alloc hg (.cells #[.int .i64 k, .int .i64 v] 32)
  go_enter Try.func58, Try.ntmps58
  go_wp2_with (fail)
  go_ret
  exact ⟨rfl, b0⟩

/-- Where a key stands, or would stand: ahead of that place lower ones alone, from it on none. -/
structure Lo (l : List Pr) (k : Int) (m : Nat) : Prop where
  le : m ≤ l.length
  lo : ∀ (i : Nat) (q : Pr), l[i]? = some q → i < m → q.1 < k
  hi : ∀ (i : Nat) (q : Pr), l[i]? = some q → m ≤ i → k ≤ q.1

set_option maxRecDepth 100000 in
set_option maxHeartbeats 6400000 in
theorem bsearch_any (a : Option Addr) (cap : Nat) (l : List Pr) (k : Int) (w : World) (h : Prs w a cap l) (hl : l.length ≤ 100000000000) (m : Nat) (hm : Lo l k m) (B : Bool) (hB : (match l[m]? with | some q => q.1 == k | none => false) = B) :
    Calls Try.prog 72 #[.slice a l.length cap, .int .i64 k, .func (.func 73) #[] #[]] w fun e w' => e = .returned (.tuple #[.int .i64 m, .bool B]) ∧ Below w.heap.size w w' := by
  have HH := Lib.hid h
  have HB := Lib.hid hB
  have HM := Lib.hid hm
  have hmle := hm.le
  have hc1 := h.1
  have hc2 := h.2.1
  clear h hB hm
  unfold maxLen at hc2
  go_enter Try.func72, Try.ntmps72
  go_wp2_with (fail)
  go_loopw [9, 10] (fun x y wr => ∃ i j : Nat, x = .int .i64 i ∧ y = .int .i64 j ∧ i ≤ m ∧ m ≤ j ∧ j ≤ l.length ∧ Below w.heap.size w wr) (fun x y _ => (intOf y).toNat - (intOf x).toNat)
  case atStart => exact ⟨0, l.length, rfl, rfl, Nat.zero_le _, hmle, Nat.le_refl _, Below.refl _ _⟩
  case round =>
    obtain ⟨i, j, rfl, rfl, him, hmj, hjl, hb⟩ := hrel
    by_cases hij : i < j
    · obtain ⟨h, hh⟩ : ∃ h : Nat, (i + j) / 2 = h := ⟨_, rfl⟩
      have hhI : ((i : Int) + (j : Int)) / 2 = (h : Int) := by omega
      have h1 : i ≤ h := by omega
      have h2 : h < j := by omega
      obtain ⟨q, hq⟩ : ∃ q, l[h]? = some q := ⟨_, List.getElem?_eq_getElem (by omega)⟩
      obtain ⟨b, o, rfl, c0, c1⟩ := (HH.out.below hb).2.2.1 h q hq
      obtain ⟨x0, x1⟩ := q
      dsimp only at c0 c1
      have hij' : (i : Int) < (j : Int) := by omega
      have hh0 : (0 : Int) ≤ (h : Int) := by omega
      have hhl : (h : Int) < (l.length : Int) := by omega
      have c := fun W => place1_any x0 x1 k W
      by_cases hx : x0 < k
      · have hz : cmpI x0 k = -1 := by unfold cmpI; rw [if_pos hx]
        rw [hz] at c
        have hm1 : h + 1 ≤ m := by
          rcases Nat.lt_or_ge h m with h' | h'
          · exact h'
          · have := HM.out.hi h _ hq h'
            dsimp only at this
            omega
        clear hq hx hz
        go_wp2_with (go_at_call 73; ((with_reducible refine (c _).mono ?_); clear c; rintro e w2 ⟨rfl, hb2⟩))
        go_roundw
        case rel => exact ⟨h + 1, j, by go_num, rfl, hm1, hmj, hjl, hb.trans (hb2.mono hb.size)⟩
        case measure => simp [intOf]; omega
      · obtain ⟨z, hz, hzn⟩ : ∃ z, cmpI x0 k = z ∧ ¬ z < 0 := by
          refine ⟨_, rfl, ?_⟩
          unfold cmpI
          rw [if_neg hx]
          split <;> omega
        rw [hz] at c
        have hm1 : m ≤ h := by
          rcases Nat.lt_or_ge h m with h' | h'
          · have := HM.out.lo h _ hq h'
            dsimp only at this
            omega
          · exact h'
        clear hq hx hz
        go_wp2_with (go_at_call 73; ((with_reducible refine (c _).mono ?_); clear c; rintro e w2 ⟨rfl, hb2⟩))
        go_roundw
        case rel => exact ⟨i, h, rfl, by go_num, him, hm1, by omega, hb.trans (hb2.mono hb.size)⟩
        case measure => simp [intOf]; omega
    · obtain rfl : i = m := by omega
      have hij' : ¬ (i : Int) < (j : Int) := by omega
      by_cases hlt : i < l.length
      · obtain ⟨q, hq⟩ : ∃ q, l[i]? = some q := ⟨_, List.getElem?_eq_getElem hlt⟩
        obtain ⟨b, o, rfl, c0, c1⟩ := (HH.out.below hb).2.2.1 i q hq
        obtain ⟨x0, x1⟩ := q
        dsimp only at c0 c1
        have hge := HM.out.hi i _ hq (Nat.le_refl _)
        dsimp only at hge
        have hlt' : (i : Int) < (l.length : Int) := by omega
        have c := fun W => place1_any x0 x1 k W
        have HBx := HB.out
        rw [hq] at HBx
        dsimp only at HBx
        by_cases hx : x0 = k
        · have hz : cmpI x0 k = 0 := by unfold cmpI; rw [if_neg (by omega), if_neg (by omega)]
          have hBt : B = true := by rw [← HBx]; simp [hx]
          rw [hz] at c
          subst hBt
          clear hq hx hz hge HBx
          go_wp2_with (go_at_call 73; ((with_reducible refine (c _).mono ?_); clear c; rintro e w2 ⟨rfl, hb2⟩))
          go_ret2
          exact ⟨rfl, hb.trans (hb2.mono hb.size)⟩
        · have hz : cmpI x0 k = 1 := by unfold cmpI; rw [if_neg (by omega), if_pos (by omega)]
          have hBt : B = false := by rw [← HBx]; simp [hx]
          rw [hz] at c
          subst hBt
          clear hq hx hz hge HBx
          go_wp2_with (go_at_call 73; ((with_reducible refine (c _).mono ?_); clear c; rintro e w2 ⟨rfl, hb2⟩))
          go_ret2
          exact ⟨rfl, hb.trans (hb2.mono hb.size)⟩
      · have hlt' : ¬ (i : Int) < (l.length : Int) := by omega
        have hBf : B = false := by rw [← HB.out, List.getElem?_eq_none (by omega)]
        subst hBf
        go_wp2_with (fail)
        go_ret2
        exact ⟨rfl, hb⟩

set_option maxRecDepth 100000 in
set_option maxHeartbeats 6400000 in
theorem ixf_any (a : Option Addr) (cap : Nat) (l : List Pr) (k : Int) (g : Nat) (w : World) (h : Prs w a cap l) (hg : w.cell? ⟨g, 0, none⟩ = some (.int .i64 k)) :
    Calls Try.prog 57 #[.slice a l.length cap, .func (.func 58) #[] #[.pointer (some ⟨g, 0, none⟩)]] w fun e w' => e = .returned (.int .i64 (ixL l k)) ∧ Below w.heap.size w w' := by
  have HH := Lib.hid h
  have HG := Lib.hid hg
  have hc1 := h.1
  have hc2 := h.2.1
  clear h hg
  unfold maxLen at hc2
  go_enter Try.func57, Try.ntmps57
  go_wp2_with (fail)
  go_loopw [8] (fun i wr => ∃ n : Nat, n ≤ l.length ∧ i = .int .i64 n ∧ (∀ x ∈ l.take n, x.1 ≠ k) ∧ Below w.heap.size w wr) (fun i _ => l.length - (intOf i).toNat)
  case atStart => exact ⟨0, Nat.zero_le _, rfl, by simp, Below.refl _ _⟩
  case round =>
    obtain ⟨n, hn, rfl, hno, hb⟩ := hrel
    have HNO := Lib.hid hno
    clear hno
    by_cases hlt : n < l.length
    · obtain ⟨q, hq⟩ : ∃ q, l[n]? = some q := ⟨_, List.getElem?_eq_getElem hlt⟩
      obtain ⟨b, o, rfl, c0, c1⟩ := (HH.out.below hb).2.2.1 n q hq
      obtain ⟨x0, x1⟩ := q
      dsimp only at c0 c1
      have HQ := Lib.hid hq
      clear hq
      have hgr : wr.cell? ⟨g, 0, none⟩ = some (.int .i64 k) := (hb.cell (World.block_lt_of_cell? w _ HG.out)).trans HG.out
      by_cases hk : x0 = k
      · have c := find1_any x0 x1 k g wr hgr true (by simp [hk])
        subst hk
        clear hgr
        go_wp2_with (go_at_call 58; ((with_reducible refine c.mono ?_); clear c; rintro e w2 ⟨rfl, hb2⟩))
        go_ret
        exact ⟨congrArg (fun z : Int => Ending.returned (.int .i64 z)) (ixL_at HQ.out HNO.out).symm, hb.trans (hb2.mono hb.size)⟩
      · have c := find1_any x0 x1 k g wr hgr false (by simpa using hk)
        have HK := Lib.hid hk
        clear hk hgr
        go_wp2_with (go_at_call 58; ((with_reducible refine c.mono ?_); clear c; rintro e w2 ⟨rfl, hb2⟩))
        go_roundw
        case rel =>
          refine ⟨n + 1, by omega, by go_num, fun x hx => ?_, hb.trans (hb2.mono hb.size)⟩
          rw [List.take_succ_eq_append_getElem hlt, List.mem_append] at hx
          rcases hx with hx | hx
          · exact HNO.out x hx
          · have : x = (x0, x1) := by
              rw [List.mem_singleton.1 hx]
              have := (List.getElem?_eq_some_iff.1 HQ.out).2
              exact this
            rw [this]; exact HK.out
        case measure => simp [intOf]; omega
    · obtain rfl : n = l.length := by omega
      go_wp2_with (fail)
      go_ret
      exact ⟨congrArg (fun z : Int => Ending.returned (.int .i64 z)) (ixL_none (fun x hx => HNO.out x (by rw [List.take_of_length_le (Nat.le_refl _)]; exact hx))).symm, hb⟩

/-- leaf.Find. -/
theorem lfind_any (a : Option Addr) (cap : Nat) (l : List Pr) (k : Int) (w : World) (h : Prs w a cap l) :
    Calls Try.prog 48 #[.slice a l.length cap, .int .i64 k] w fun e w' => e = .returned (.int .i64 (ixL l k)) ∧ Below w.heap.size w w' := by
  have b0 : Below w.heap.size w (w.alloc (.cells #[.int .i64 k] 3)) := (Below.refl _ _).alloc (Nat.le_refl _) _
  have c := ixf_any a cap l k w.heap.size (w.alloc (.cells #[.int .i64 k] 3)) (h.below b0) (by simp)
  go_enter Try.func48, Try.ntmps48
  go_wp2_with (go_at_call 57; ((with_reducible refine c.mono ?_); clear c; rintro e w2 ⟨rfl, hb2⟩))
  go_ret
  exact ⟨rfl, b0.trans (hb2.mono b0.size)⟩
end Go.Proofs.Ytadfnbmogobopaa
