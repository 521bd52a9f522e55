/- Spans of keys (tree.span), mayLeaf, mayRoute. No condition: lemmas. -/
import Derived.Test.YtlpjbgojijkdjaaTrM
import Derived.Test.YtlpjbgojijkdjaaLfB
namespace Go.Proofs.Ytlpjbgojijkdjaa
open Go.RowKit
set_option linter.all false

def oo (b : Bool) (x : Int) : Option Int := if b = true then some x else none
def spv (x y : Int) (hl hh : Bool) : Value := .agg #[.int .i64 x, .int .i64 y, .bool hl, .bool hh]
theorem inS_oo {x y k : Int} {hl hh : Bool} : inS (oo hl x) (oo hh y) k ↔ (hl = true → x ≤ k) ∧ (hh = true → k < y) := by
  unfold inS oo
  cases hl <;> cases hh <;> simp

theorem holds_any (x y k : Int) (hl hh : Bool) (w : World) (B : Bool) (hB : B = true ↔ inS (oo hl x) (oo hh y) k) :
    Calls Try.prog 56 #[spv x y hl hh, .int .i64 k] w fun e w' => e = .returned (.bool B) ∧ Below w.heap.size w w' := by
  have b0 : Below w.heap.size w (w.alloc (.cells #[.int .i64 x, .int .i64 y, .bool hl, .bool hh] 71)) := (Below.refl _ _).alloc (Nat.le_refl _) _
  rw [inS_oo] at hB
  unfold spv
  by_cases h1 : x ≤ k <;> by_cases h2 : k < y <;> cases hl <;> cases hh <;> (simp [h1, h2] at hB; subst hB)
  all_goals
    go_enter Try.func56, Try.ntmps56
    go_wp2_with (fail)
    go_ret
    first | exact ⟨rfl, b0⟩ | (refine ⟨?_, b0⟩; simp; omega)

theorem begins_any (x y k : Int) (hl hh : Bool) (w : World) (B : Bool) (hB : B = true ↔ oo hl x = some k) :
    Calls Try.prog 58 #[spv x y hl hh, .int .i64 k] w fun e w' => e = .returned (.bool B) ∧ Below w.heap.size w w' := by
  have b0 : Below w.heap.size w (w.alloc (.cells #[.int .i64 x, .int .i64 y, .bool hl, .bool hh] 71)) := (Below.refl _ _).alloc (Nat.le_refl _) _
  unfold oo at hB
  unfold spv
  by_cases h1 : k = x
  · subst h1
    cases hl <;> (simp at hB; subst hB)
    all_goals
      go_enter Try.func58, Try.ntmps58
      go_wp2_with (fail)
      go_ret
      first | exact ⟨rfl, b0⟩ | (refine ⟨?_, b0⟩; simp)
  · have h2 : ¬ x = k := fun e => h1 e.symm
    cases hl <;> (simp [h2] at hB; subst hB)
    all_goals
      go_enter Try.func58, Try.ntmps58
      go_wp2_with (fail)
      go_ret
      first | exact ⟨rfl, b0⟩ | (refine ⟨?_, b0⟩; simp [h1])

theorem left_any (x y k : Int) (hl hh : Bool) (w : World) :
    Calls Try.prog 50 #[spv x y hl hh, .int .i64 k] w fun e w' => e = .returned (spv x k hl true) ∧ Below w.heap.size w w' := by
  unfold spv
  go_enter Try.func50, Try.ntmps50
  go_wp2_with (fail)
  refine bodyPost_ret (v := .agg #[.int .i64 x, .int .i64 k, .bool hl, .bool true]) (by simp [results, Try.results50, go_sem]) rfl ⟨rfl, ?_⟩
  repeat' (first | exact Below.refl _ _ | refine Below.setCell ?_ (by simp) _ | refine Below.alloc ?_ (by simp) _ | refine Below.drew ?_)
theorem right_any (x y k : Int) (hl hh : Bool) (w : World) :
    Calls Try.prog 51 #[spv x y hl hh, .int .i64 k] w fun e w' => e = .returned (spv k y true hh) ∧ Below w.heap.size w w' := by
  unfold spv
  go_enter Try.func51, Try.ntmps51
  go_wp2_with (fail)
  refine bodyPost_ret (v := .agg #[.int .i64 k, .int .i64 y, .bool true, .bool hh]) (by simp [results, Try.results51, go_sem]) rfl ⟨rfl, ?_⟩
  repeat' (first | exact Below.refl _ _ | refine Below.setCell ?_ (by simp) _ | refine Below.alloc ?_ (by simp) _ | refine Below.drew ?_)

theorem kc {W W' : World} {q : Addr} {v : Value} (hb : Below W.heap.size W W') (h : W.cell? q = some v) : W'.cell? q = some v := (hb.cell (World.block_lt_of_cell? W _ h)).trans h
theorem setO {W : World} {b j b' k : Nat} {u v : Value} (h : W.cell? ⟨b, j, none⟩ = some v) (hne : b' ≠ b ∨ k ≠ j) : (W.setCell ⟨b', k, none⟩ u).cell? ⟨b, j, none⟩ = some v :=
  (World.cell?_setCell_other _ _ _ _ (by intro e; cases e; omega)).trans h
theorem setS {W : World} {b j : Nat} {u v : Value} (h : W.cell? ⟨b, j, none⟩ = some v) : (W.setCell ⟨b, j, none⟩ u).cell? ⟨b, j, none⟩ = some u := World.cell?_setCell_same _ _ _ h
theorem al1 {w : World} (o : Obj) : Below w.heap.size w (w.alloc o) := (Below.refl _ _).alloc (Nat.le_refl _) _
theorem bel1 {w W : World} (h : Below w.heap.size w W) (o : Obj) : Below w.heap.size w (W.alloc o) := h.alloc h.size o
theorem bel2 {w W W' : World} (h : Below w.heap.size w W) (hb : Below W.heap.size W W') : Below w.heap.size w W' := h.trans (hb.mono h.size)
/-- The cells of a span. -/
def SpC (W : World) (g : Nat) (x y : Int) (hl hh : Bool) : Prop := W.cell? ⟨g, 0, none⟩ = some (.int .i64 x) ∧ W.cell? ⟨g, 1, none⟩ = some (.int .i64 y) ∧ W.cell? ⟨g, 2, none⟩ = some (.bool hl) ∧ W.cell? ⟨g, 3, none⟩ = some (.bool hh)
theorem SpC.keep {W W' : World} {g : Nat} {x y : Int} {hl hh : Bool} (h : SpC W g x y hl hh) (hb : Below W.heap.size W W') : SpC W' g x y hl hh := by
  obtain ⟨h0, h1, h2, h3⟩ := h
  exact ⟨kc hb h0, kc hb h1, kc hb h2, kc hb h3⟩
theorem out_any (k v x y : Int) (hl hh : Bool) (g : Nat) (w : World) (h : SpC w g x y hl hh) (B : Bool) (hB : B = true ↔ ¬ inS (oo hl x) (oo hh y) k) :
    Calls Try.prog 55 #[.agg #[.int .i64 k, .int .i64 v], .pointer (some ⟨g, 0, none⟩)] w fun e w' => e = .returned (.bool B) ∧ Below w.heap.size w w' := by
  have b0 : Below w.heap.size w (w.alloc (.cells #[.int .i64 k, .int .i64 v] 48)) := (Below.refl _ _).alloc (Nat.le_refl _) _
  have c := fun W => holds_any x y k hl hh W (!B) (by cases B <;> simp_all)
  obtain ⟨h0, h1, h2, h3⟩ := h.keep b0
  unfold spv at c
  go_enter Try.func55, Try.ntmps55
  go_wp2_with (go_at_call 56; ((with_reducible refine (c _).mono ?_); clear c; rintro e w2 ⟨rfl, hb2⟩))
  go_ret
  exact ⟨by simp, b0.trans (hb2.mono b0.size)⟩

set_option maxRecDepth 100000 in
set_option maxHeartbeats 6400000 in
/-- slices.ContainsFunc: is one of the pairs outside. -/
theorem ixo_any (a : Option Addr) (cap : Nat) (l : List Pr) (x y : Int) (hl hh : Bool) (g : Nat) (w : World) (h : Prs w a cap l) (hg : SpC w g x y hl hh) :
    Calls Try.prog 60 #[.slice a l.length cap, .func (.func 55) #[] #[.pointer (some ⟨g, 0, none⟩)]] w fun e w' => (∃ n : Int, e = .returned (.int .i64 n) ∧ (0 ≤ n ↔ ∃ q ∈ l, ¬ inS (oo hl x) (oo hh y) q.1)) ∧ Below w.heap.size w w' := by
  have HH := Lib.hid h
  have HG := Lib.hid hg
  have hc1 := h.1
  have hc2 := h.2.1
  clear h hg
  unfold maxLen at hc2
  go_enter Try.func60, Try.ntmps60
  go_wp2_with (fail)
  go_loopw [8] (fun i wr => ∃ n : Nat, n ≤ l.length ∧ i = .int .i64 n ∧ (∀ z ∈ l.take n, inS (oo hl x) (oo hh y) z.1) ∧ Below w.heap.size w wr) (fun i _ => l.length - (intOf i).toNat)
  case atStart => exact ⟨0, Nat.zero_le _, rfl, by simp, Below.refl _ _⟩
  case round =>
    obtain ⟨n, hn, rfl, hno, hb⟩ := hrel
    have HNO := Lib.hid hno
    clear hno
    by_cases hlt : n < l.length
    · obtain ⟨q, hq⟩ : ∃ q, l[n]? = some q := ⟨_, List.getElem?_eq_getElem hlt⟩
      obtain ⟨b, o, rfl, c0, c1⟩ := (HH.out.below hb).2.2.1 n q hq
      obtain ⟨x0, x1⟩ := q
      dsimp only at c0 c1
      have HQ := Lib.hid hq
      clear hq
      have hgr := HG.out.keep hb
      by_cases hk : inS (oo hl x) (oo hh y) x0
      · have c := out_any x0 x1 x y hl hh g wr hgr false (by simp [hk])
        have HK := Lib.hid hk
        clear hk hgr
        go_wp2_with (go_at_call 55; ((with_reducible refine c.mono ?_); clear c; rintro e w2 ⟨rfl, hb2⟩))
        go_roundw
        case rel =>
          refine ⟨n + 1, by omega, by go_num, fun z hz => ?_, hb.trans (hb2.mono hb.size)⟩
          rw [List.take_succ_eq_append_getElem hlt, List.mem_append] at hz
          rcases hz with hz | hz
          · exact HNO.out z hz
          · have : z = (x0, x1) := by
              rw [List.mem_singleton.1 hz]
              have := (List.getElem?_eq_some_iff.1 HQ.out).2
              exact this
            rw [this]; exact HK.out
        case measure => simp [intOf]; omega
      · have c := out_any x0 x1 x y hl hh g wr hgr true (by simp [hk])
        have HK := Lib.hid hk
        clear hk hgr
        go_wp2_with (go_at_call 55; ((with_reducible refine c.mono ?_); clear c; rintro e w2 ⟨rfl, hb2⟩))
        go_ret
        exact ⟨⟨_, rfl, ⟨fun _ => ⟨_, List.mem_of_getElem? HQ.out, HK.out⟩, fun _ => by omega⟩⟩, hb.trans (hb2.mono hb.size)⟩
    · obtain rfl : n = l.length := by omega
      go_wp2_with (fail)
      go_ret
      refine ⟨⟨_, rfl, ⟨fun h => absurd h (by decide), fun ⟨q, hq, hno⟩ => absurd (HNO.out q (by rw [List.take_of_length_le (Nat.le_refl _)]; exact hq)) hno⟩⟩, hb⟩
theorem cto_any (a : Option Addr) (cap : Nat) (l : List Pr) (x y : Int) (hl hh : Bool) (g : Nat) (w : World) (h : Prs w a cap l) (hg : SpC w g x y hl hh) (B : Bool) (hB : B = true ↔ ∃ q ∈ l, ¬ inS (oo hl x) (oo hh y) q.1) :
    Calls Try.prog 57 #[.slice a l.length cap, .func (.func 55) #[] #[.pointer (some ⟨g, 0, none⟩)]] w fun e w' => e = .returned (.bool B) ∧ Below w.heap.size w w' := by
  have c := ixo_any a cap l x y hl hh g w h hg
  rw [← hB] at c
  clear hB
  go_enter Try.func57, Try.ntmps57
  go_wp2_with (go_at_call 60; ((with_reducible refine c.mono ?_); clear c; rintro e w2 ⟨⟨n, rfl, hn⟩, hb2⟩))
  go_ret
  exact ⟨by cases B <;> simp_all, hb2⟩
end Go.Proofs.Ytlpjbgojijkdjaa
