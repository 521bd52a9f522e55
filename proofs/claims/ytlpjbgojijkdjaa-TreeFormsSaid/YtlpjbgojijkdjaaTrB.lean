/- tree.mayLeaf, tree.mayRoute. No condition: lemmas. -/
import Derived.Test.YtlpjbgojijkdjaaTrA
namespace Go.Proofs.Ytlpjbgojijkdjaa
open Go.RowKit
set_option linter.all false

def ndv (n : Nd) (pa : Option Addr) (pc : Nat) : Value := .agg #[.bool n.r, .int .i64 n.k, .int .i64 n.a, .int .i64 n.b, .slice pa n.p.length pc, .int .i64 n.s]

set_option maxRecDepth 100000 in
set_option maxHeartbeats 6400000 in
theorem mayleaf_any (n : Nd) (pa : Option Addr) (pc : Nat) (x y : Int) (hl hh : Bool) (w : World) (h : Prs w pa pc n.p) (B : Bool) (hB : B = true ↔ okL n (oo hl x) (oo hh y)) :
    Calls Try.prog 48 #[ndv n pa pc, spv x y hl hh] w fun e w' => e = .returned (.bool B) ∧ Below w.heap.size w w' := by
  obtain ⟨r, k, a, b, p, s⟩ := n
  unfold okL at hB
  unfold ndv spv
  dsimp only at h hB ⊢
  have b1 : Below w.heap.size w (w.alloc (.cells #[.bool r, .int .i64 k, .int .i64 a, .int .i64 b, .slice pa p.length pc, .int .i64 s] 51)) := (Below.refl _ _).alloc (Nat.le_refl _) _
  have b2 : Below w.heap.size w ((w.alloc (.cells #[.bool r, .int .i64 k, .int .i64 a, .int .i64 b, .slice pa p.length pc, .int .i64 s] 51)).alloc (.cells #[.int .i64 x, .int .i64 y, .bool hl, .bool hh] 71)) := b1.alloc b1.size _
  by_cases h1 : k = 0
  case neg =>
    obtain rfl : B = false := by cases B <;> simp_all
    have h1' : (k != 0) = true := by simpa using h1
    go_enter Try.func48, Try.ntmps48
    go_wp2_with (fail)
    go_ret
    exact ⟨rfl, b2⟩
  subst h1
  by_cases h1 : a = 0
  case neg =>
    obtain rfl : B = false := by cases B <;> simp_all
    have h1' : (a != 0) = true := by simpa using h1
    go_enter Try.func48, Try.ntmps48
    go_wp2_with (fail)
    go_ret
    exact ⟨rfl, b2⟩
  subst h1
  by_cases h1 : b = 0
  case neg =>
    obtain rfl : B = false := by cases B <;> simp_all
    have h1' : (b != 0) = true := by simpa using h1
    go_enter Try.func48, Try.ntmps48
    go_wp2_with (fail)
    go_ret
    exact ⟨rfl, b2⟩
  subst h1
  by_cases h1 : s < -1000000
  · obtain rfl : B = false := by cases B <;> simp_all; omega
    go_enter Try.func48, Try.ntmps48
    go_wp2_with (fail)
    go_ret
    exact ⟨rfl, b2⟩
  by_cases h2 : 1000000 < s
  · obtain rfl : B = false := by cases B <;> simp_all; omega
    go_enter Try.func48, Try.ntmps48
    go_wp2_with (fail)
    go_ret
    exact ⟨rfl, b2⟩
  have hs1 : -1000000 ≤ s := by omega
  have hs2 : s ≤ 1000000 := by omega
  have HB : B = true ↔ Srt p ∧ ∀ q ∈ p, inS (oo hl x) (oo hh y) q.1 := hB.trans ⟨fun t => ⟨t.2.2.2.2.2.1, t.2.2.2.2.2.2⟩, fun t => ⟨rfl, rfl, rfl, hs1, hs2, t.1, t.2⟩⟩
  clear hB
  by_cases h3 : Srt p
  case neg =>
    obtain rfl : B = false := by cases B <;> simp_all
    have cm := lmay_any pa pc p _ (h.below b2) false (by simp [h3])
    clear h3 HB
    go_enter Try.func48, Try.ntmps48
    go_wp2_with (go_at_call 47; ((with_reducible refine cm.mono ?_); clear cm; rintro e w2 ⟨rfl, hb2⟩))
    go_ret
    exact ⟨rfl, b2.trans (hb2.mono b2.size)⟩
  have cm := lmay_any pa pc p _ (h.below b2) true (by simp [h3])
  have cc := fun (W : World) (hb : Below w.heap.size w W) (hg : SpC W (w.heap.size + 1) x y hl hh) => cto_any pa pc p x y hl hh (w.heap.size + 1) W (h.below hb) hg (!B) (by
    constructor
    · intro t
      apply Classical.byContradiction
      intro u
      have hBt : B = true := HB.2 ⟨h3, fun q hq => Classical.byContradiction fun v => u ⟨q, hq, v⟩⟩
      rw [hBt] at t; cases t
    · rintro ⟨q, hq, hno⟩
      cases B
      · rfl
      · exact absurd ((HB.1 rfl).2 q hq) hno)
  have hg0 : SpC ((w.alloc (.cells #[.bool r, .int .i64 0, .int .i64 0, .int .i64 0, .slice pa p.length pc, .int .i64 s] 51)).alloc (.cells #[.int .i64 x, .int .i64 y, .bool hl, .bool hh] 71)) (w.heap.size + 1) x y hl hh := by
    refine ⟨?_, ?_, ?_, ?_⟩ <;> simp [go_sem]
  have hc4 : ((w.alloc (.cells #[.bool r, .int .i64 0, .int .i64 0, .int .i64 0, .slice pa p.length pc, .int .i64 s] 51)).alloc (.cells #[.int .i64 x, .int .i64 y, .bool hl, .bool hh] 71)).cell? ⟨w.heap.size, 4, none⟩ = some (.slice pa p.length pc) := by simp [go_sem]
  have HG := Lib.hid (And.intro b2 (And.intro hg0 hc4))
  clear HB h3 hg0 hc4 b1 h
  go_enter Try.func48, Try.ntmps48
  go_wp2_with (first
    | (go_at_call 47; ((with_reducible refine cm.mono ?_); clear cm; rintro e w2 ⟨rfl, hb2⟩; have k4 := kc hb2 HG.out.2.2))
    | (go_at_call 57; ((with_reducible refine (cc _ (HG.out.1.trans (hb2.mono HG.out.1.size)) (HG.out.2.1.keep hb2)).mono ?_); clear cc; rintro e w3 ⟨rfl, hb3⟩)))
  go_ret
  exact ⟨by simp, (HG.out.1.trans (hb2.mono HG.out.1.size)).trans (hb3.mono (Nat.le_trans HG.out.1.size hb2.size))⟩

set_option maxRecDepth 100000 in
set_option maxHeartbeats 6400000 in
theorem mayroute_any (n : Nd) (pa : Option Addr) (pc : Nat) (x y : Int) (hl hh : Bool) (w : World) (hpl : n.p.length ≤ 1000000) (B : Bool) (hB : B = true ↔ okR n (oo hl x) (oo hh y)) :
    Calls Try.prog 49 #[ndv n pa pc, spv x y hl hh] w fun e w' => e = .returned (.bool B) ∧ Below w.heap.size w w' := by
  obtain ⟨r, k, a, b, p, s⟩ := n
  unfold okR at hB
  unfold ndv spv
  dsimp only at hB hpl ⊢
  have b1 : Below w.heap.size w (w.alloc (.cells #[.bool r, .int .i64 k, .int .i64 a, .int .i64 b, .slice pa p.length pc, .int .i64 s] 51)) := (Below.refl _ _).alloc (Nat.le_refl _) _
  have b2 : Below w.heap.size w ((w.alloc (.cells #[.bool r, .int .i64 k, .int .i64 a, .int .i64 b, .slice pa p.length pc, .int .i64 s] 51)).alloc (.cells #[.int .i64 x, .int .i64 y, .bool hl, .bool hh] 71)) := b1.alloc b1.size _
  by_cases h1 : p = []
  case neg =>
    obtain rfl : B = false := by cases B <;> simp_all
    have h1' : ((p.length : Int) == 0) = false := by
      have := List.length_pos_iff.2 h1
      simp; omega
    go_enter Try.func49, Try.ntmps49
    go_wp2_with (fail)
    go_ret
    exact ⟨rfl, b2⟩
  subst h1
  by_cases h1 : s = 0
  case neg =>
    obtain rfl : B = false := by cases B <;> simp_all
    have h1' : (s == 0) = false := by simpa using h1
    go_enter Try.func49, Try.ntmps49
    go_wp2_with (fail)
    go_ret
    exact ⟨rfl, b2⟩
  subst h1
  by_cases h3 : inS (oo hl x) (oo hh y) k
  case neg =>
    obtain rfl : B = false := by cases B <;> simp_all
    have cm := fun W => holds_any x y k hl hh W false (by simp [h3])
    unfold spv at cm
    clear h3 hB
    go_enter Try.func49, Try.ntmps49
    go_wp2_with (go_at_call 56; ((with_reducible refine (cm _).mono ?_); clear cm; rintro e w2 ⟨rfl, hb2⟩))
    go_ret
    exact ⟨rfl, b2.trans (hb2.mono b2.size)⟩
  have cm := fun W => holds_any x y k hl hh W true (by simp [h3])
  have cc := fun W => begins_any x y k hl hh W (!B) (by
    have : B = true ↔ oo hl x ≠ some k := hB.trans ⟨fun t => t.2.2.2, fun t => ⟨rfl, rfl, h3, t⟩⟩
    cases B
    · simp at this ⊢; exact this
    · simp at this ⊢; exact this)
  unfold spv at cm cc
  have hg0 : SpC ((w.alloc (.cells #[.bool r, .int .i64 k, .int .i64 a, .int .i64 b, .slice pa 0 pc, .int .i64 0] 51)).alloc (.cells #[.int .i64 x, .int .i64 y, .bool hl, .bool hh] 71)) (w.heap.size + 1) x y hl hh := by
    refine ⟨?_, ?_, ?_, ?_⟩ <;> simp [go_sem]
  have hc1 : ((w.alloc (.cells #[.bool r, .int .i64 k, .int .i64 a, .int .i64 b, .slice pa 0 pc, .int .i64 0] 51)).alloc (.cells #[.int .i64 x, .int .i64 y, .bool hl, .bool hh] 71)).cell? ⟨w.heap.size, 1, none⟩ = some (.int .i64 k) := by simp [go_sem]
  have HG := Lib.hid (And.intro hg0 hc1)
  clear h3 hB b1 hg0 hc1
  go_enter Try.func49, Try.ntmps49
  go_wp2_with (first
    | (go_at_call 56; ((with_reducible refine (cm _).mono ?_); clear cm; rintro e w2 ⟨rfl, hb2⟩; have k4 := kc hb2 HG.out.2; obtain ⟨g0, g1, g2, g3⟩ := HG.out.1.keep hb2))
    | (go_at_call 58; ((with_reducible refine (cc _).mono ?_); clear cc; rintro e w3 ⟨rfl, hb3⟩)))
  go_ret
  exact ⟨by simp, (b2.trans (hb2.mono b2.size)).trans (hb3.mono (Nat.le_trans b2.size hb2.size))⟩
end Go.Proofs.Ytlpjbgojijkdjaa
