/- Spans of keys (tree.span), mayLeaf, mayRoute. No condition: lemmas. tree.mayLeaf, tree.mayRoute. No condition: lemmas. Nodes in memory: a slice of nodes that is read (Ns), the value of a tree. No condition: definitions and lemmas. check.from: what hangs somewhere, and what it came to. No condition: lemmas. Parameters api.Tree: their nodes, how long the pairs may be. No condition: definitions and lemmas. -/
import Derived.Test.YtijepfabkalcoaaTrM
import Derived.Test.YtijepfabkalcoaaLfB
import Derived.Test.YtijepfabkalcoaaBlZ
import Derived.Deep.RegionHeld3
import Derived.Deep.CutRange
import Derived.Deep.CutBlock
import Derived.Deep.RegionLaw
import Derived.Deep.QuietTactic
import Derived.BigQuiet
import Derived.SizedLaws
namespace Go.Proofs.Ytijepfabkalcoaa
open Go.RowKit
set_option linter.all false

def oo (b : Bool) (x : Int) : Option Int := if b = true then some x else none
def spv (x y : Int) (hl hh : Bool) : Value := .agg #[.int .i64 x, .int .i64 y, .bool hl, .bool hh]
theorem inS_oo {x y k : Int} {hl hh : Bool} : inS (oo hl x) (oo hh y) k ↔ (hl = true → x ≤ k) ∧ (hh = true → k < y) := by
  unfold inS oo
  cases hl <;> cases hh <;> simp

theorem holds_any (x y k : Int) (hl hh : Bool) (w : World) (B : Bool) (hB : B = true ↔ inS (oo hl x) (oo hh y) k) :
    Calls Try.prog 92 #[spv x y hl hh, .int .i64 k] w fun e w' => e = .returned (.bool B) ∧ Below w.heap.size w w' := by
  have b0 : Below w.heap.size w (w.alloc (.cells #[.int .i64 x, .int .i64 y, .bool hl, .bool hh] 79)) := (Below.refl _ _).alloc (Nat.le_refl _) _
  rw [inS_oo] at hB
  unfold spv
  by_cases h1 : x ≤ k <;> by_cases h2 : k < y <;> cases hl <;> cases hh <;> (simp [h1, h2] at hB; subst hB)
  all_goals
    go_enter Try.func92, Try.ntmps92
    go_wp2_with (fail)
    go_ret
    first | exact ⟨rfl, b0⟩ | (refine ⟨?_, b0⟩; simp; omega)

theorem begins_any (x y k : Int) (hl hh : Bool) (w : World) (B : Bool) (hB : B = true ↔ oo hl x = some k) :
    Calls Try.prog 94 #[spv x y hl hh, .int .i64 k] w fun e w' => e = .returned (.bool B) ∧ Below w.heap.size w w' := by
  have b0 : Below w.heap.size w (w.alloc (.cells #[.int .i64 x, .int .i64 y, .bool hl, .bool hh] 79)) := (Below.refl _ _).alloc (Nat.le_refl _) _
  unfold oo at hB
  unfold spv
  by_cases h1 : k = x
  · subst h1
    cases hl <;> (simp at hB; subst hB)
    all_goals
      go_enter Try.func94, Try.ntmps94
      go_wp2_with (fail)
      go_ret
      first | exact ⟨rfl, b0⟩ | (refine ⟨?_, b0⟩; simp)
  · have h2 : ¬ x = k := fun e => h1 e.symm
    cases hl <;> (simp [h2] at hB; subst hB)
    all_goals
      go_enter Try.func94, Try.ntmps94
      go_wp2_with (fail)
      go_ret
      first | exact ⟨rfl, b0⟩ | (refine ⟨?_, b0⟩; simp [h1])

theorem left_any (x y k : Int) (hl hh : Bool) (w : World) :
    Calls Try.prog 69 #[spv x y hl hh, .int .i64 k] w fun e w' => e = .returned (spv x k hl true) ∧ Below w.heap.size w w' := by
  unfold spv
  go_enter Try.func69, Try.ntmps69
  go_wp2_with (fail)
  refine bodyPost_ret (v := .agg #[.int .i64 x, .int .i64 k, .bool hl, .bool true]) (by simp [results, Try.results69, go_sem]) rfl ⟨rfl, ?_⟩
  repeat' (first | exact Below.refl _ _ | refine Below.setCell ?_ (by simp) _ | refine Below.alloc ?_ (by simp) _ | refine Below.drew ?_)
theorem right_any (x y k : Int) (hl hh : Bool) (w : World) :
    Calls Try.prog 70 #[spv x y hl hh, .int .i64 k] w fun e w' => e = .returned (spv k y true hh) ∧ Below w.heap.size w w' := by
  unfold spv
  go_enter Try.func70, Try.ntmps70
  go_wp2_with (fail)
  refine bodyPost_ret (v := .agg #[.int .i64 k, .int .i64 y, .bool true, .bool hh]) (by simp [results, Try.results70, go_sem]) rfl ⟨rfl, ?_⟩
  repeat' (first | exact Below.refl _ _ | refine Below.setCell ?_ (by simp) _ | refine Below.alloc ?_ (by simp) _ | refine Below.drew ?_)

theorem kc {W W' : World} {q : Addr} {v : Value} (hb : Below W.heap.size W W') (h : W.cell? q = some v) : W'.cell? q = some v := (hb.cell (World.block_lt_of_cell? W _ h)).trans h
theorem setO {W : World} {b j b' k : Nat} {u v : Value} (h : W.cell? ⟨b, j, none⟩ = some v) (hne : b' ≠ b ∨ k ≠ j) : (W.setCell ⟨b', k, none⟩ u).cell? ⟨b, j, none⟩ = some v :=
  (World.cell?_setCell_other _ _ _ _ (by intro e; cases e; omega)).trans h
theorem setS {W : World} {b j : Nat} {u v : Value} (h : W.cell? ⟨b, j, none⟩ = some v) : (W.setCell ⟨b, j, none⟩ u).cell? ⟨b, j, none⟩ = some u := World.cell?_setCell_same _ _ _ h
theorem al1 {w : World} (o : Obj) : Below w.heap.size w (w.alloc o) := (Below.refl _ _).alloc (Nat.le_refl _) _
/-- The cells of a span. -/
def SpC (W : World) (g : Nat) (x y : Int) (hl hh : Bool) : Prop := W.cell? ⟨g, 0, none⟩ = some (.int .i64 x) ∧ W.cell? ⟨g, 1, none⟩ = some (.int .i64 y) ∧ W.cell? ⟨g, 2, none⟩ = some (.bool hl) ∧ W.cell? ⟨g, 3, none⟩ = some (.bool hh)
theorem SpC.keep {W W' : World} {g : Nat} {x y : Int} {hl hh : Bool} (h : SpC W g x y hl hh) (hb : Below W.heap.size W W') : SpC W' g x y hl hh := by
  obtain ⟨h0, h1, h2, h3⟩ := h
  exact ⟨kc hb h0, kc hb h1, kc hb h2, kc hb h3⟩
theorem out_any (k v x y : Int) (hl hh : Bool) (g : Nat) (w : World) (h : SpC w g x y hl hh) (B : Bool) (hB : B = true ↔ ¬ inS (oo hl x) (oo hh y) k) :
    Calls Try.prog 91 #[.agg #[.int .i64 k, .int .i64 v], .pointer (some ⟨g, 0, none⟩)] w fun e w' => e = .returned (.bool B) ∧ Below w.heap.size w w' := by
  have b0 : Below w.heap.size w (w.alloc (.cells #[.int .i64 k, .int .i64 v] 41)) := (Below.refl _ _).alloc (Nat.le_refl _) _
  have c := fun W => holds_any x y k hl hh W (!B) (by cases B <;> simp_all)
  obtain ⟨h0, h1, h2, h3⟩ := h.keep b0
  unfold spv at c
  go_enter Try.func91, Try.ntmps91
  go_wp2_with (go_at_call 92; ((with_reducible refine (c _).mono ?_); clear c; rintro e w2 ⟨rfl, hb2⟩))
  go_ret
  exact ⟨by simp, b0.trans (hb2.mono b0.size)⟩

set_option maxRecDepth 100000 in
set_option maxHeartbeats 6400000 in
/-- slices.ContainsFunc: is one of the pairs outside. -/
theorem ixo_any (a : Option Addr) (cap : Nat) (l : List Pr) (x y : Int) (hl hh : Bool) (g : Nat) (w : World) (h : Prs w a cap l) (hg : SpC w g x y hl hh) :
    Calls Try.prog 104 #[.slice a l.length cap, .func (.func 91) #[] #[.pointer (some ⟨g, 0, none⟩)]] w fun e w' => (∃ n : Int, e = .returned (.int .i64 n) ∧ (0 ≤ n ↔ ∃ q ∈ l, ¬ inS (oo hl x) (oo hh y) q.1)) ∧ Below w.heap.size w w' := by
  have HH := Lib.hid h
  have HG := Lib.hid hg
  have hc1 := h.1
  have hc2 := h.2.1
  clear h hg
  unfold maxLen at hc2
  go_enter Try.func104, Try.ntmps104
  go_wp2_with (fail)
  go_loopw [8] (fun i wr => ∃ n : Nat, n ≤ l.length ∧ i = .int .i64 n ∧ (∀ z ∈ l.take n, inS (oo hl x) (oo hh y) z.1) ∧ Below w.heap.size w wr) (fun i _ => l.length - (intOf i).toNat)
  case atStart => exact ⟨0, Nat.zero_le _, rfl, by simp, Below.refl _ _⟩
  case round =>
    obtain ⟨n, hn, rfl, hno, hb⟩ := hrel
    have HNO := Lib.hid hno
    clear hno
    by_cases hlt : n < l.length
    · obtain ⟨q, hq⟩ : ∃ q, l[n]? = some q := ⟨_, List.getElem?_eq_getElem hlt⟩
      obtain ⟨b, o, rfl, c0, c1⟩ := (HH.out.below hb).2.2.1 n q hq
      obtain ⟨x0, x1⟩ := q
      dsimp only at c0 c1
      have HQ := Lib.hid hq
      clear hq
      have hgr := HG.out.keep hb
      by_cases hk : inS (oo hl x) (oo hh y) x0
      · have c := out_any x0 x1 x y hl hh g wr hgr false (by simp [hk])
        have HK := Lib.hid hk
        clear hk hgr
        go_wp2_with (go_at_call 91; ((with_reducible refine c.mono ?_); clear c; rintro e w2 ⟨rfl, hb2⟩))
        go_roundw
        case rel =>
          refine ⟨n + 1, by omega, by go_num, fun z hz => ?_, hb.trans (hb2.mono hb.size)⟩
          rw [List.take_succ_eq_append_getElem hlt, List.mem_append] at hz
          rcases hz with hz | hz
          · exact HNO.out z hz
          · have : z = (x0, x1) := by
              rw [List.mem_singleton.1 hz]
              have := (List.getElem?_eq_some_iff.1 HQ.out).2
              exact this
            rw [this]; exact HK.out
        case measure => simp [intOf]; omega
      · have c := out_any x0 x1 x y hl hh g wr hgr true (by simp [hk])
        have HK := Lib.hid hk
        clear hk hgr
        go_wp2_with (go_at_call 91; ((with_reducible refine c.mono ?_); clear c; rintro e w2 ⟨rfl, hb2⟩))
        go_ret
        exact ⟨⟨_, rfl, ⟨fun _ => ⟨_, List.mem_of_getElem? HQ.out, HK.out⟩, fun _ => by omega⟩⟩, hb.trans (hb2.mono hb.size)⟩
    · obtain rfl : n = l.length := by omega
      go_wp2_with (fail)
      go_ret
      refine ⟨⟨_, rfl, ⟨fun h => absurd h (by decide), fun ⟨q, hq, hno⟩ => absurd (HNO.out q (by rw [List.take_of_length_le (Nat.le_refl _)]; exact hq)) hno⟩⟩, hb⟩
theorem cto_any (a : Option Addr) (cap : Nat) (l : List Pr) (x y : Int) (hl hh : Bool) (g : Nat) (w : World) (h : Prs w a cap l) (hg : SpC w g x y hl hh) (B : Bool) (hB : B = true ↔ ∃ q ∈ l, ¬ inS (oo hl x) (oo hh y) q.1) :
    Calls Try.prog 93 #[.slice a l.length cap, .func (.func 91) #[] #[.pointer (some ⟨g, 0, none⟩)]] w fun e w' => e = .returned (.bool B) ∧ Below w.heap.size w w' := by
  have c := ixo_any a cap l x y hl hh g w h hg
  rw [← hB] at c
  clear hB
  go_enter Try.func93, Try.ntmps93
  go_wp2_with (go_at_call 104; ((with_reducible refine c.mono ?_); clear c; rintro e w2 ⟨⟨n, rfl, hn⟩, hb2⟩))
  go_ret
  exact ⟨by cases B <;> simp_all, hb2⟩
end Go.Proofs.Ytijepfabkalcoaa

namespace Go.Proofs.Ytijepfabkalcoaa
open Go.RowKit
set_option linter.all false

def ndv (n : Nd) (pa : Option Addr) (pc : Nat) : Value := .agg #[.bool n.r, .int .i64 n.k, .int .i64 n.a, .int .i64 n.b, .slice pa n.p.length pc, .int .i64 n.s]

set_option maxRecDepth 100000 in
set_option maxHeartbeats 6400000 in
theorem mayleaf_any (n : Nd) (pa : Option Addr) (pc : Nat) (x y : Int) (hl hh : Bool) (w : World) (h : Prs w pa pc n.p) (B : Bool) (hB : B = true ↔ okL n (oo hl x) (oo hh y)) :
    Calls Try.prog 67 #[ndv n pa pc, spv x y hl hh] w fun e w' => e = .returned (.bool B) ∧ Below w.heap.size w w' := by
  obtain ⟨r, k, a, b, p, s⟩ := n
  unfold okL at hB
  unfold ndv spv
  dsimp only at h hB ⊢
  have b1 : Below w.heap.size w (w.alloc (.cells #[.bool r, .int .i64 k, .int .i64 a, .int .i64 b, .slice pa p.length pc, .int .i64 s] 49)) := (Below.refl _ _).alloc (Nat.le_refl _) _
  have b2 : Below w.heap.size w ((w.alloc (.cells #[.bool r, .int .i64 k, .int .i64 a, .int .i64 b, .slice pa p.length pc, .int .i64 s] 49)).alloc (.cells #[.int .i64 x, .int .i64 y, .bool hl, .bool hh] 79)) := b1.alloc b1.size _
  by_cases h1 : k = 0
  case neg =>
    obtain rfl : B = false := by cases B <;> simp_all
    have h1' : (k != 0) = true := by simpa using h1
    go_enter Try.func67, Try.ntmps67
    go_wp2_with (fail)
    go_ret
    exact ⟨rfl, b2⟩
  subst h1
  by_cases h1 : a = 0
  case neg =>
    obtain rfl : B = false := by cases B <;> simp_all
    have h1' : (a != 0) = true := by simpa using h1
    go_enter Try.func67, Try.ntmps67
    go_wp2_with (fail)
    go_ret
    exact ⟨rfl, b2⟩
  subst h1
  by_cases h1 : b = 0
  case neg =>
    obtain rfl : B = false := by cases B <;> simp_all
    have h1' : (b != 0) = true := by simpa using h1
    go_enter Try.func67, Try.ntmps67
    go_wp2_with (fail)
    go_ret
    exact ⟨rfl, b2⟩
  subst h1
  by_cases h1 : s < -1000000
  · obtain rfl : B = false := by cases B <;> simp_all; omega
    go_enter Try.func67, Try.ntmps67
    go_wp2_with (fail)
    go_ret
    exact ⟨rfl, b2⟩
  by_cases h2 : 1000000 < s
  · obtain rfl : B = false := by cases B <;> simp_all; omega
    go_enter Try.func67, Try.ntmps67
    go_wp2_with (fail)
    go_ret
    exact ⟨rfl, b2⟩
  have hs1 : -1000000 ≤ s := by omega
  have hs2 : s ≤ 1000000 := by omega
  have HB : B = true ↔ Srt p ∧ ∀ q ∈ p, inS (oo hl x) (oo hh y) q.1 := hB.trans ⟨fun t => ⟨t.2.2.2.2.2.1, t.2.2.2.2.2.2⟩, fun t => ⟨rfl, rfl, rfl, hs1, hs2, t.1, t.2⟩⟩
  clear hB
  by_cases h3 : Srt p
  case neg =>
    obtain rfl : B = false := by cases B <;> simp_all
    have cm := lmay_any pa pc p _ (h.below b2) false (by simp [h3])
    clear h3 HB
    go_enter Try.func67, Try.ntmps67
    go_wp2_with (go_at_call 53; ((with_reducible refine cm.mono ?_); clear cm; rintro e w2 ⟨rfl, hb2⟩))
    go_ret
    exact ⟨rfl, b2.trans (hb2.mono b2.size)⟩
  have cm := lmay_any pa pc p _ (h.below b2) true (by simp [h3])
  have cc := fun (W : World) (hb : Below w.heap.size w W) (hg : SpC W (w.heap.size + 1) x y hl hh) => cto_any pa pc p x y hl hh (w.heap.size + 1) W (h.below hb) hg (!B) (by
    constructor
    · intro t
      apply Classical.byContradiction
      intro u
      have hBt : B = true := HB.2 ⟨h3, fun q hq => Classical.byContradiction fun v => u ⟨q, hq, v⟩⟩
      rw [hBt] at t; cases t
    · rintro ⟨q, hq, hno⟩
      cases B
      · rfl
      · exact absurd ((HB.1 rfl).2 q hq) hno)
  have hg0 : SpC ((w.alloc (.cells #[.bool r, .int .i64 0, .int .i64 0, .int .i64 0, .slice pa p.length pc, .int .i64 s] 49)).alloc (.cells #[.int .i64 x, .int .i64 y, .bool hl, .bool hh] 79)) (w.heap.size + 1) x y hl hh := by
    refine ⟨?_, ?_, ?_, ?_⟩ <;> simp [go_sem]
  have hc4 : ((w.alloc (.cells #[.bool r, .int .i64 0, .int .i64 0, .int .i64 0, .slice pa p.length pc, .int .i64 s] 49)).alloc (.cells #[.int .i64 x, .int .i64 y, .bool hl, .bool hh] 79)).cell? ⟨w.heap.size, 4, none⟩ = some (.slice pa p.length pc) := by simp [go_sem]
  have HG := Lib.hid (And.intro b2 (And.intro hg0 hc4))
  clear HB h3 hg0 hc4 b1 h
  go_enter Try.func67, Try.ntmps67
  go_wp2_with (first
    | (go_at_call 53; ((with_reducible refine cm.mono ?_); clear cm; rintro e w2 ⟨rfl, hb2⟩; have k4 := kc hb2 HG.out.2.2))
    | (go_at_call 93; ((with_reducible refine (cc _ (HG.out.1.trans (hb2.mono HG.out.1.size)) (HG.out.2.1.keep hb2)).mono ?_); clear cc; rintro e w3 ⟨rfl, hb3⟩)))
  go_ret
  exact ⟨by simp, (HG.out.1.trans (hb2.mono HG.out.1.size)).trans (hb3.mono (Nat.le_trans HG.out.1.size hb2.size))⟩

set_option maxRecDepth 100000 in
set_option maxHeartbeats 6400000 in
theorem mayroute_any (n : Nd) (pa : Option Addr) (pc : Nat) (x y : Int) (hl hh : Bool) (w : World) (hpl : n.p.length ≤ 100000000000) (B : Bool) (hB : B = true ↔ okR n (oo hl x) (oo hh y)) :
    Calls Try.prog 68 #[ndv n pa pc, spv x y hl hh] w fun e w' => e = .returned (.bool B) ∧ Below w.heap.size w w' := by
  obtain ⟨r, k, a, b, p, s⟩ := n
  unfold okR at hB
  unfold ndv spv
  dsimp only at hB hpl ⊢
  have b1 : Below w.heap.size w (w.alloc (.cells #[.bool r, .int .i64 k, .int .i64 a, .int .i64 b, .slice pa p.length pc, .int .i64 s] 49)) := (Below.refl _ _).alloc (Nat.le_refl _) _
  have b2 : Below w.heap.size w ((w.alloc (.cells #[.bool r, .int .i64 k, .int .i64 a, .int .i64 b, .slice pa p.length pc, .int .i64 s] 49)).alloc (.cells #[.int .i64 x, .int .i64 y, .bool hl, .bool hh] 79)) := b1.alloc b1.size _
  by_cases h1 : p = []
  case neg =>
    obtain rfl : B = false := by cases B <;> simp_all
    have h1' : ((p.length : Int) == 0) = false := by
      have := List.length_pos_iff.2 h1
      simp; omega
    go_enter Try.func68, Try.ntmps68
    go_wp2_with (fail)
    go_ret
    exact ⟨rfl, b2⟩
  subst h1
  by_cases h1 : s = 0
  case neg =>
    obtain rfl : B = false := by cases B <;> simp_all
    have h1' : (s == 0) = false := by simpa using h1
    go_enter Try.func68, Try.ntmps68
    go_wp2_with (fail)
    go_ret
    exact ⟨rfl, b2⟩
  subst h1
  by_cases h3 : inS (oo hl x) (oo hh y) k
  case neg =>
    obtain rfl : B = false := by cases B <;> simp_all
    have cm := fun W => holds_any x y k hl hh W false (by simp [h3])
    unfold spv at cm
    clear h3 hB
    go_enter Try.func68, Try.ntmps68
    go_wp2_with (go_at_call 92; ((with_reducible refine (cm _).mono ?_); clear cm; rintro e w2 ⟨rfl, hb2⟩))
    go_ret
    exact ⟨rfl, b2.trans (hb2.mono b2.size)⟩
  have cm := fun W => holds_any x y k hl hh W true (by simp [h3])
  have cc := fun W => begins_any x y k hl hh W (!B) (by
    have : B = true ↔ oo hl x ≠ some k := hB.trans ⟨fun t => t.2.2.2, fun t => ⟨rfl, rfl, h3, t⟩⟩
    cases B
    · simp at this ⊢; exact this
    · simp at this ⊢; exact this)
  unfold spv at cm cc
  have hg0 : SpC ((w.alloc (.cells #[.bool r, .int .i64 k, .int .i64 a, .int .i64 b, .slice pa 0 pc, .int .i64 0] 49)).alloc (.cells #[.int .i64 x, .int .i64 y, .bool hl, .bool hh] 79)) (w.heap.size + 1) x y hl hh := by
    refine ⟨?_, ?_, ?_, ?_⟩ <;> simp [go_sem]
  have hc1 : ((w.alloc (.cells #[.bool r, .int .i64 k, .int .i64 a, .int .i64 b, .slice pa 0 pc, .int .i64 0] 49)).alloc (.cells #[.int .i64 x, .int .i64 y, .bool hl, .bool hh] 79)).cell? ⟨w.heap.size, 1, none⟩ = some (.int .i64 k) := by simp [go_sem]
  have HG := Lib.hid (And.intro hg0 hc1)
  clear h3 hB b1 hg0 hc1
  go_enter Try.func68, Try.ntmps68
  go_wp2_with (first
    | (go_at_call 92; ((with_reducible refine (cm _).mono ?_); clear cm; rintro e w2 ⟨rfl, hb2⟩; have k4 := kc hb2 HG.out.2; obtain ⟨g0, g1, g2, g3⟩ := HG.out.1.keep hb2))
    | (go_at_call 94; ((with_reducible refine (cc _).mono ?_); clear cc; rintro e w3 ⟨rfl, hb3⟩)))
  go_ret
  exact ⟨by simp, (b2.trans (hb2.mono b2.size)).trans (hb3.mono (Nat.le_trans b2.size hb2.size))⟩
end Go.Proofs.Ytijepfabkalcoaa

namespace Go.Proofs.Ytijepfabkalcoaa
open Go.RowKit
set_option linter.all false

/-- A node's cells. -/
structure NA (w : World) (b o : Nat) (pa : Option Addr) (pc : Nat) (n : Nd) : Prop where
  c0 : w.cell? ⟨b, o, none⟩ = some (.bool n.r)
  c1 : w.cell? ⟨b, o + 1, none⟩ = some (.int .i64 n.k)
  c2 : w.cell? ⟨b, o + 2, none⟩ = some (.int .i64 n.a)
  c3 : w.cell? ⟨b, o + 3, none⟩ = some (.int .i64 n.b)
  c4 : w.cell? ⟨b, o + 4, none⟩ = some (.slice pa n.p.length pc)
  c5 : w.cell? ⟨b, o + 5, none⟩ = some (.int .i64 n.s)
  ps : Prs w pa pc n.p
theorem NA.keep {w w' : World} {b o : Nat} {pa : Option Addr} {pc : Nat} {n : Nd} (h : NA w b o pa pc n) (hb : Below w.heap.size w w') : NA w' b o pa pc n :=
  ⟨kc hb h.c0, kc hb h.c1, kc hb h.c2, kc hb h.c3, kc hb h.c4, kc hb h.c5, h.ps.below hb⟩
/-- A slice of nodes that can be read. -/
def Ns (w : World) (a : Option Addr) (cap : Nat) (N : List Nd) : Prop :=
  N.length ≤ cap ∧ cap ≤ maxLen ∧ ∀ (i : Nat) (n : Nd), N[i]? = some n → ∃ b o pa pc, a = some ⟨b, o, none⟩ ∧ NA w b (o + i * 6) pa pc n
theorem Ns.keep {w w' : World} {a : Option Addr} {cap : Nat} {N : List Nd} (h : Ns w a cap N) (hb : Below w.heap.size w w') : Ns w' a cap N :=
  ⟨h.1, h.2.1, fun i n hn => by
    obtain ⟨b, o, pa, pc, e, hc⟩ := h.2.2 i n hn
    exact ⟨b, o, pa, pc, e, hc.keep hb⟩⟩
theorem Ns.none (w : World) : Ns w none 0 [] := ⟨Nat.le_refl _, Nat.zero_le _, fun i n hn => by simp at hn⟩
/-- Few nodes, few pairs in each. -/
def Small (N : List Nd) : Prop := N.length ≤ 2000 ∧ ∀ n ∈ N, n.p.length ≤ 1100000
theorem Small.at {N : List Nd} {i : Nat} {n : Nd} (h : Small N) (hn : N[i]? = some n) : n.p.length ≤ 1100000 := h.2 n (List.mem_of_getElem? hn)
def trv (t : Int) (a : Option Addr) (cap : Nat) (N : List Nd) : Value := .agg #[.int .i64 t, .slice a N.length cap]
end Go.Proofs.Ytijepfabkalcoaa

namespace Go.Proofs.Ytijepfabkalcoaa
open Go.RowKit
set_option linter.all false

/-- A row of bools in a block of its own. -/
structure Bs (W : World) (g : Nat) (sn : List Bool) : Prop where
  lt : g < W.heap.size
  at_ : ∀ (j : Nat) (v : Bool), sn[j]? = some v → W.cell? ⟨g, j, none⟩ = some (.bool v)
  fr : ∀ j, W.frozen? ⟨g, j, none⟩ = false
theorem Bs.keep {W W' : World} {g : Nat} {sn : List Bool} (h : Bs W g sn) (hb : Below W.heap.size W W') : Bs W' g sn :=
  ⟨Nat.lt_of_lt_of_le h.lt hb.size, fun j v hj => kc hb (h.at_ j v hj), fun j => (hb.frozen (p := ⟨g, j, none⟩) h.lt).trans (h.fr j)⟩
theorem Bs.set {W : World} {g : Nat} {sn : List Bool} (h : Bs W g sn) (i : Nat) (hi : i < sn.length) (b : Bool) : Bs (W.setCell ⟨g, i, none⟩ (.bool b)) g (sn.set i b) := by
  refine ⟨by have := h.lt; simpa [World.setCell] using this, fun j v hj => ?_, fun j => by rw [World.frozen?_setCell]; exact h.fr j⟩
  rw [List.getElem?_set] at hj
  by_cases e : i = j
  · subst e
    rw [if_pos rfl, if_pos hi] at hj
    cases hj
    exact World.cell?_setCell_same _ _ _ (h.at_ i _ (List.getElem?_eq_getElem hi))
  · rw [if_neg e] at hj
    exact setO (h.at_ j v hj) (.inr e)
/-- What from reads: the check, the span; then the node, too. -/
def C6 (W : World) (q0 q1 : Nat) (a : Option Addr) (nl cap : Nat) (g sc : Nat) (x y : Int) (hl hh : Bool) : Prop :=
  W.cell? ⟨q0, 0, none⟩ = some (.slice a nl cap) ∧ W.cell? ⟨q0, 1, none⟩ = some (.slice (some ⟨g, 0, none⟩) nl sc) ∧
  W.cell? ⟨q1, 0, none⟩ = some (.int .i64 x) ∧ W.cell? ⟨q1, 1, none⟩ = some (.int .i64 y) ∧ W.cell? ⟨q1, 2, none⟩ = some (.bool hl) ∧ W.cell? ⟨q1, 3, none⟩ = some (.bool hh)
def C12 (W : World) (q0 q1 q2 : Nat) (a : Option Addr) (nl cap : Nat) (g sc : Nat) (x y : Int) (hl hh : Bool) (r : Bool) (k l b : Int) (pa : Option Addr) (pl pc : Nat) (s : Int) : Prop :=
  W.cell? ⟨q0, 0, none⟩ = some (.slice a nl cap) ∧ W.cell? ⟨q0, 1, none⟩ = some (.slice (some ⟨g, 0, none⟩) nl sc) ∧
  W.cell? ⟨q1, 0, none⟩ = some (.int .i64 x) ∧ W.cell? ⟨q1, 1, none⟩ = some (.int .i64 y) ∧ W.cell? ⟨q1, 2, none⟩ = some (.bool hl) ∧ W.cell? ⟨q1, 3, none⟩ = some (.bool hh) ∧
  W.cell? ⟨q2, 0, none⟩ = some (.bool r) ∧ W.cell? ⟨q2, 1, none⟩ = some (.int .i64 k) ∧ W.cell? ⟨q2, 2, none⟩ = some (.int .i64 l) ∧ W.cell? ⟨q2, 3, none⟩ = some (.int .i64 b) ∧
  W.cell? ⟨q2, 4, none⟩ = some (.slice pa pl pc) ∧ W.cell? ⟨q2, 5, none⟩ = some (.int .i64 s)
section
variable {W W' : World} {q0 q1 q2 : Nat} {a : Option Addr} {nl cap g sc : Nat} {x y : Int} {hl hh r : Bool} {k l b : Int} {pa : Option Addr} {pl pc : Nat} {s : Int}
theorem C12.keep (h : C12 W q0 q1 q2 a nl cap g sc x y hl hh r k l b pa pl pc s) (hb : Below W.heap.size W W') : C12 W' q0 q1 q2 a nl cap g sc x y hl hh r k l b pa pl pc s := by
  obtain ⟨c0, c1, c2, c3, c4, c5, c6, c7, c8, c9, c10, c11⟩ := h
  exact ⟨kc hb c0, kc hb c1, kc hb c2, kc hb c3, kc hb c4, kc hb c5, kc hb c6, kc hb c7, kc hb c8, kc hb c9, kc hb c10, kc hb c11⟩
theorem C12.only (h : C12 W q0 q1 q2 a nl cap g sc x y hl hh r k l b pa pl pc s) (ho : Only (fun j => j = g) W W') (n0 : ¬ q0 = g) (n1 : ¬ q1 = g) (n2 : ¬ q2 = g) : C12 W' q0 q1 q2 a nl cap g sc x y hl hh r k l b pa pl pc s := by
  obtain ⟨c0, c1, c2, c3, c4, c5, c6, c7, c8, c9, c10, c11⟩ := h
  exact ⟨ho.cell c0 n0, ho.cell c1 n0, ho.cell c2 n1, ho.cell c3 n1, ho.cell c4 n1, ho.cell c5 n1, ho.cell c6 n2, ho.cell c7 n2, ho.cell c8 n2, ho.cell c9 n2, ho.cell c10 n2, ho.cell c11 n2⟩
/-- The node is laid behind. -/
theorem C6.node (h : C6 W q0 q1 a nl cap g sc x y hl hh) : C12 (W.alloc (.cells #[.bool r, .int .i64 k, .int .i64 l, .int .i64 b, .slice pa pl pc, .int .i64 s] 49)) q0 q1 W.heap.size a nl cap g sc x y hl hh r k l b pa pl pc s := by
  obtain ⟨c0, c1, c2, c3, c4, c5⟩ := h
  refine ⟨kc (al1 _) c0, kc (al1 _) c1, kc (al1 _) c2, kc (al1 _) c3, kc (al1 _) c4, kc (al1 _) c5, ?_, ?_, ?_, ?_, ?_, ?_⟩ <;> simp
/-- As from makes it. -/
theorem c6_make {w : World} {i : Nat} (hg : g < w.heap.size) :
    C6 (((w.alloc (.cells #[.slice a nl cap, .slice (some ⟨g, 0, none⟩) nl sc] 76)).alloc (.cells #[.int .i64 x, .int .i64 y, .bool hl, .bool hh] 79)).setCell ⟨g, i, none⟩ (.bool true))
      w.heap.size (w.heap.size + 1) a nl cap g sc x y hl hh := by
  have n0 : g ≠ w.heap.size := by omega
  have n1 : g ≠ w.heap.size + 1 := by omega
  refine ⟨?_, ?_, ?_, ?_, ?_, ?_⟩
  · exact setO (by simp [go_sem]) (.inl n0)
  · exact setO (by simp [go_sem]) (.inl n0)
  · exact setO (by simp [go_sem]) (.inl n1)
  · exact setO (by simp [go_sem]) (.inl n1)
  · exact setO (by simp [go_sem]) (.inl n1)
  · exact setO (by simp [go_sem]) (.inl n1)
end
/-- What from tells. -/
def FrIs (g : Nat) (sn : List Bool) (P : Sh → Prop) (B : Bool) (W : World) (e : Ending) (w' : World) : Prop :=
  e = .returned (.bool B) ∧ ∃ sn', sn'.length = sn.length ∧ Bs w' g sn' ∧ Only (fun k => k = g) W w' ∧ ∀ s, P s → sn' = mark sn s.pre

set_option maxRecDepth 100000 in
set_option maxHeartbeats 6400000 in
theorem from_out {a : Option Addr} {cap nl : Nat} {t x y : Int} {hl hh : Bool} {sv : Value} {w : World} (h : ¬ (0 ≤ t ∧ t < (nl : Int))) (hnl : nl ≤ 1000000) :
    Calls Try.prog 36 #[.agg #[.slice a nl cap, sv], .int .i64 t, spv x y hl hh] w fun e w' => e = .returned (.bool false) ∧ Below w.heap.size w w' := by
  unfold spv
  have b2 : Below w.heap.size w ((w.alloc (.cells #[.slice a nl cap, sv] 76)).alloc (.cells #[.int .i64 x, .int .i64 y, .bool hl, .bool hh] 79)) := bel1 (al1 _) _
  by_cases h0 : t < 0
  · go_enter Try.func36, Try.ntmps36
    go_wp2_with (fail)
    go_ret
    exact ⟨rfl, b2⟩
  · have h1 : (nl : Int) ≤ t := by omega
    clear h
    go_enter Try.func36, Try.ntmps36
    go_wp2_with (fail)
    go_ret
    exact ⟨rfl, b2⟩
end Go.Proofs.Ytijepfabkalcoaa

namespace Go.Proofs.Ytijepfabkalcoaa
open Go.RowKit Go.Deep Go.ChangeShapes Go.WideShapes
set_option linter.all false
set_option maxRecDepth 20000

/-- No node has more pairs than a form may hold. -/
def Mid (N : List Nd) : Prop := ∀ n ∈ N, n.p.length ≤ 8796093022208
section
variable {H : Type} {enc : TypeId × Value → H} {w : World} {fuel : Nat} {x : DataW H × List MemPlace}
theorem mem_weightsAll {P : Program} {e : TypeId} : ∀ {l : List (DataW H)} {d : DataW H} {k : Nat}, d ∈ l → k ∈ d.weights P e → k ∈ DataW.weightsAll P e l := by
  intro l
  induction l with
  | nil => intro d k h; cases h
  | cons y l ih =>
    intro d k h hk
    simp only [DataW.weightsAll, List.mem_append]
    rcases List.mem_cons.1 h with rfl | h
    · exact .inl hk
    · exact .inr (ih h hk)
theorem fields_node {cs : List Value} (h : DataW.trod enc Try.prog w 0 (fun _ => true) true fuel 49 cs = some x) (hb : ∀ n ∈ x.1.weights Try.prog 49, n ≤ reachBytes) :
    ∃ (n : Nd) (pa : Option Addr) (pc : Nat), cs = [.bool n.r, .int .i64 n.k, .int .i64 n.a, .int .i64 n.b, .slice pa n.p.length pc, .int .i64 n.s] ∧ Prs w pa pc n.p ∧ n.p.length ≤ 8796093022208 := by
  obtain ⟨ys, n, _, hx, hlen, hyl, hf⟩ := DataW.trod_struct Try.underlying49 h
  have hone : Try.prog.cellsOf 3 = 1 := by kernel_rfl
  have hone2 : Try.prog.cellsOf 4 = 1 := by kernel_rfl
  have hone4 : Try.prog.cellsOf 42 = 1 := by kernel_rfl
  have h6 : Try.prog.cellsOf 49 = 6 := by kernel_rfl
  rw [h6] at hlen
  have some_of : ∀ i, i < 6 → ∃ y, ys[i]? = some y := fun i hi => ⟨_, List.getElem?_eq_getElem (by rw [hyl]; exact hi)⟩
  match cs, hlen with
  | [v0, v1, v2, v3, v4, v5], _ =>
    obtain ⟨y0, e0⟩ := some_of 0 (by decide)
    obtain ⟨y1, e1⟩ := some_of 1 (by decide)
    obtain ⟨y2, e2⟩ := some_of 2 (by decide)
    obtain ⟨y3, e3⟩ := some_of 3 (by decide)
    obtain ⟨y4, e4⟩ := some_of 4 (by decide)
    obtain ⟨y5, e5⟩ := some_of 5 (by decide)
    have g0 : DataW.trod enc Try.prog w 0 (fun _ => true) true n 4 (([v0, v1, v2, v3, v4, v5].drop 0).take (Try.prog.cellsOf 4)) = ys[0]? := hf 0 _ rfl
    have g1 : DataW.trod enc Try.prog w 0 (fun _ => true) true n 3 (([v0, v1, v2, v3, v4, v5].drop 1).take (Try.prog.cellsOf 3)) = ys[1]? := hf 1 _ rfl
    have g2 : DataW.trod enc Try.prog w 0 (fun _ => true) true n 3 (([v0, v1, v2, v3, v4, v5].drop 2).take (Try.prog.cellsOf 3)) = ys[2]? := hf 2 _ rfl
    have g3 : DataW.trod enc Try.prog w 0 (fun _ => true) true n 3 (([v0, v1, v2, v3, v4, v5].drop 3).take (Try.prog.cellsOf 3)) = ys[3]? := hf 3 _ rfl
    have g4 : DataW.trod enc Try.prog w 0 (fun _ => true) true n 42 (([v0, v1, v2, v3, v4, v5].drop 4).take (Try.prog.cellsOf 42)) = ys[4]? := hf 4 _ rfl
    have g5 : DataW.trod enc Try.prog w 0 (fun _ => true) true n 3 (([v0, v1, v2, v3, v4, v5].drop 5).take (Try.prog.cellsOf 3)) = ys[5]? := hf 5 _ rfl
    rw [hone2, e0] at g0; rw [hone, e1] at g1; rw [hone, e2] at g2; rw [hone, e3] at g3; rw [hone4, e4] at g4; rw [hone, e5] at g5
    obtain ⟨b0, a0, _⟩ := DataW.trod_bool Try.underlying4 g0
    obtain ⟨n1, a1, _⟩ := DataW.trod_int Try.underlying3 g1
    obtain ⟨n2, a2, _⟩ := DataW.trod_int Try.underlying3 g2
    obtain ⟨n3, a3, _⟩ := DataW.trod_int Try.underlying3 g3
    obtain ⟨a, cap, l, hv, ha⟩ := open_pairs (v := v4) (by simpa using g4)
    obtain ⟨n5, a5, _⟩ := DataW.trod_int Try.underlying3 g5
    simp at a0 a1 a2 a3 a5
    subst hv
    have hw := wt_pairs (x := y4) (by simpa using g4) (fun k hk => hb k (by
      rw [hx]
      simp only [DataW.weights, Try.underlying49]
      exact DataW.weights_mem_each (j := 4) (t := 42) (d := y4.1) rfl (by rw [List.getElem?_map, e4]; rfl) k hk))
    subst a0; subst a1; subst a2; subst a3; subst a5
    exact ⟨⟨b0, n1, n2, n3, l, n5⟩, a, cap, rfl, ha, hw⟩
theorem open_nodes {v : Value} (h : DataW.trod enc Try.prog w 0 (fun _ => true) true fuel 22 [v] = some x) (hb : ∀ n ∈ x.1.weights Try.prog 22, n ≤ reachBytes) : ∃ a cap N, v = .slice a N.length cap ∧ Ns w a cap N ∧ Mid N := by
  have h2 : Try.prog.cellsOf 49 = 6 := by kernel_rfl
  rcases open_slice Try.underlying22 h with ⟨hcs, _⟩ | ⟨y, len, cap, m, n, D, Pl, hcs, hbb, hl, hm, hmm, hx, hi⟩
  · simp at hcs
    exact ⟨none, 0, [], hcs, Ns.none w, fun q hq => by cases hq⟩
  · simp at hcs hmm
    subst hmm
    subst hx
    rw [h2] at hi
    have each : ∀ i, i < len → ∃ d : Nd, d.p.length ≤ 8796093022208 ∧ ∃ b o pa pc, y = ⟨b, o, none⟩ ∧ NA w b (o + i * 6) pa pc d := by
      intro i him
      obtain ⟨cs', hc, ht⟩ := hi i (by omega)
      obtain ⟨_, hcl, hat⟩ := World.cells?_some hc
      obtain ⟨d, pa, pc, rfl, hp, hd⟩ := fields_node ht (fun k hk => hb k (by
        simp only [DataW.weights, Try.underlying22]
        exact List.mem_cons_of_mem _ (List.mem_append_left _ (mem_weightsAll (List.mem_map.2 ⟨i, List.mem_range.2 him, rfl⟩) hk))))
      obtain ⟨cs0, hc0, _⟩ := hi 0 (by omega)
      obtain ⟨_, hcl0, hat0⟩ := World.cells?_some hc0
      obtain ⟨b, o, spot⟩ := y
      have hs : spot = none := by
        have h0 := hat0 0 (by decide)
        rw [List.getElem?_eq_getElem (by omega)] at h0
        simpa [Addr.add] using World.cell?_spot h0
      subst hs
      have at_ : ∀ j, j < 6 → w.cell? ⟨b, o + i * 6 + j, none⟩ = [Value.bool d.r, .int .i64 d.k, .int .i64 d.a, .int .i64 d.b, .slice pa d.p.length pc, .int .i64 d.s][j]? := fun j hj => by
        have := hat j hj
        rwa [add_lit, add_lit] at this
      exact ⟨d, hd, b, o, pa, pc, rfl, at_ 0 (by decide), at_ 1 (by decide), at_ 2 (by decide), at_ 3 (by decide), at_ 4 (by decide), at_ 5 (by decide), hp⟩
    haveI : Inhabited Nd := ⟨Nd.z⟩
    obtain ⟨f, hf⟩ := choose_lt each
    refine ⟨some y, m, (List.range len).map f, by simp [hcs], ⟨by simpa using hl, hm, fun n c hc => ?_⟩, fun q hq => ?_⟩
    rotate_left
    · obtain ⟨j, hj, rfl⟩ := List.mem_map.1 hq
      exact (hf j (List.mem_range.1 hj)).1
    have hn : n < len := by
      rcases Nat.lt_or_ge n len with h | h
      · exact h
      · rw [List.getElem?_eq_none (by simpa using h)] at hc; cases hc
    rw [List.getElem?_map, List.getElem?_range hn] at hc
    simp at hc
    subst hc
    obtain ⟨_, b, o, pa, pc, rfl, hcl⟩ := hf n hn
    exact ⟨b, o, pa, pc, rfl, hcl⟩
theorem fields_tree {cs : List Value} (h : DataW.trod enc Try.prog w 0 (fun _ => true) true fuel 24 cs = some x) (hb : ∀ n ∈ x.1.weights Try.prog 24, n ≤ reachBytes) :
    ∃ (t : Int) (a : Option Addr) (cap : Nat) (N : List Nd), cs = [.int .i64 t, .slice a N.length cap] ∧ Ns w a cap N ∧ Mid N := by
  obtain ⟨ys, n, _, hx, hlen, hyl, hf⟩ := DataW.trod_struct Try.underlying24 h
  have hone : Try.prog.cellsOf 3 = 1 := by kernel_rfl
  have hone4 : Try.prog.cellsOf 22 = 1 := by kernel_rfl
  have h2 : Try.prog.cellsOf 24 = 2 := by kernel_rfl
  rw [h2] at hlen
  have some_of : ∀ i, i < 2 → ∃ y, ys[i]? = some y := fun i hi => ⟨_, List.getElem?_eq_getElem (by rw [hyl]; exact hi)⟩
  match cs, hlen with
  | [v0, v1], _ =>
    obtain ⟨y0, e0⟩ := some_of 0 (by decide)
    obtain ⟨y1, e1⟩ := some_of 1 (by decide)
    have g0 : DataW.trod enc Try.prog w 0 (fun _ => true) true n 3 (([v0, v1].drop 0).take (Try.prog.cellsOf 3)) = ys[0]? := hf 0 _ rfl
    have g1 : DataW.trod enc Try.prog w 0 (fun _ => true) true n 22 (([v0, v1].drop 1).take (Try.prog.cellsOf 22)) = ys[1]? := hf 1 _ rfl
    rw [hone, e0] at g0; rw [hone4, e1] at g1
    obtain ⟨n0, a0, _⟩ := DataW.trod_int Try.underlying3 g0
    obtain ⟨a, cap, N, hv, hN, hM⟩ := open_nodes (v := v1) (x := y1) (by simpa using g1) (fun k hk => hb k (by
      rw [hx]
      simp only [DataW.weights, Try.underlying24]
      exact DataW.weights_mem_each (j := 1) (t := 22) (d := y1.1) rfl (by rw [List.getElem?_map, e1]; rfl) k hk))
    simp at a0
    subst a0; subst hv
    exact ⟨n0, a, cap, N, rfl, hN, hM⟩
end
end Go.Proofs.Ytijepfabkalcoaa
