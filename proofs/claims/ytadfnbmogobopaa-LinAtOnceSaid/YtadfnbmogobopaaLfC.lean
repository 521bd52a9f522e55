/- leaf's place, had, within, told, updated, Do over any pairs. No condition: lemmas. -/
import Derived.Test.YtadfnbmogobopaaLfM
import Derived.Test.YtadfnbmogobopaaLfB
namespace Go.Proofs.Ytadfnbmogobopaa
open Go.RowKit
set_option linter.all false

theorem place_any (a : Option Addr) (cap : Nat) (l : List Pr) (k : Int) (w : World) (h : Prs w a cap l) (hl : l.length ≤ 100000000000) (m : Nat) (hm : Lo l k m) (B : Bool) (hB : hasB l k m = B) :
    Calls Try.prog 68 #[.slice a l.length cap, .int .i64 k] w fun e w' => e = .returned (.tuple #[.int .i64 m, .bool B]) ∧ Below w.heap.size w w' := by
  have c := bsearch_any a cap l k w h hl m hm B hB
  clear h hm hB hl
  go_enter Try.func68, Try.ntmps68
  go_wp2_with (go_at_call 72; ((with_reducible refine c.mono ?_); clear c; rintro e w2 ⟨rfl, hb2⟩))
  go_ret2
  exact ⟨rfl, hb2⟩

/-- A block that holds an answer and may be written. -/
structure AC (W : World) (b : Nat) (e : Int) (o : Bool) (k v n : Int) (p : Value) : Prop where
  z0 : W.cell? ⟨b, 0, none⟩ = some (.int .i64 e)
  z1 : W.cell? ⟨b, 1, none⟩ = some (.bool o)
  z2 : W.cell? ⟨b, 2, none⟩ = some (.int .i64 k)
  z3 : W.cell? ⟨b, 3, none⟩ = some (.int .i64 v)
  z4 : W.cell? ⟨b, 4, none⟩ = some (.int .i64 n)
  z5 : W.cell? ⟨b, 5, none⟩ = some p
  f0 : W.frozen? ⟨b, 0, none⟩ = false
  f1 : W.frozen? ⟨b, 1, none⟩ = false
  f2 : W.frozen? ⟨b, 2, none⟩ = false
  f3 : W.frozen? ⟨b, 3, none⟩ = false
  f4 : W.frozen? ⟨b, 4, none⟩ = false
  f5 : W.frozen? ⟨b, 5, none⟩ = false
section
variable {W W' : World} {b : Nat} {e k v n : Int} {o : Bool} {p : Value}
theorem AC.lt (h : AC W b e o k v n p) : b < W.heap.size := World.block_lt_of_cell? W _ h.z0
theorem AC.keep (h : AC W b e o k v n p) (hb : Below W.heap.size W W') : AC W' b e o k v n p := by
  have hl := h.lt
  have c : ∀ {j v}, W.cell? ⟨b, j, none⟩ = some v → W'.cell? ⟨b, j, none⟩ = some v := fun {j v} hc => (hb.cell (p := ⟨b, j, none⟩) hl).trans hc
  have f : ∀ {j}, W.frozen? ⟨b, j, none⟩ = false → W'.frozen? ⟨b, j, none⟩ = false := fun {j} hf => (World.frozen?_of_block (a := ⟨b, j, none⟩) (hb.block b hl)).trans hf
  exact ⟨c h.z0, c h.z1, c h.z2, c h.z3, c h.z4, c h.z5, f h.f0, f h.f1, f h.f2, f h.f3, f h.f4, f h.f5⟩
end
theorem AC.new (w : World) (t : TypeId) : AC (w.alloc (.cells #[.int .i64 0, .bool false, .int .i64 0, .int .i64 0, .int .i64 0, .slice none 0 0] t)) w.heap.size 0 false 0 0 0 (.slice none 0 0) := by
  constructor <;> simp
theorem keepc {W : World} {b j k : Nat} {u v : Value} (h : W.cell? ⟨b, j, none⟩ = some v) (hne : j ≠ k) : (W.setCell ⟨b, k, none⟩ u).cell? ⟨b, j, none⟩ = some v :=
  (World.cell?_setCell_other _ _ _ _ (by simpa using hne)).trans h

/-- An answer written into that block. -/
theorem AC.put {W : World} {b : Nat} {e k v n : Int} {o : Bool} {p : Value} (h : AC W b e o k v n p) (e' : Int) (o' : Bool) (k' v' n' : Int) (p' : Value) :
    ∃ Wf, Wf = ((((((W.setCell ⟨b, 0, none⟩ (.int .i64 e')).setCell ⟨b, 1, none⟩ (.bool o')).setCell ⟨b, 2, none⟩ (.int .i64 k')).setCell ⟨b, 3, none⟩ (.int .i64 v')).setCell ⟨b, 4, none⟩ (.int .i64 n')).setCell ⟨b, 5, none⟩ p') ∧
      AC Wf b e' o' k' v' n' p' ∧ Below b W Wf := by
  refine ⟨_, rfl, ⟨(keepc (keepc (keepc (keepc (keepc (World.cell?_setCell_same _ _ _ h.z0) (by decide)) (by decide)) (by decide)) (by decide)) (by decide)),
    (keepc (keepc (keepc (keepc (World.cell?_setCell_same _ _ _ (keepc h.z1 (by decide))) (by decide)) (by decide)) (by decide)) (by decide)),
    (keepc (keepc (keepc (World.cell?_setCell_same _ _ _ (keepc (keepc h.z2 (by decide)) (by decide))) (by decide)) (by decide)) (by decide)),
    (keepc (keepc (World.cell?_setCell_same _ _ _ (keepc (keepc (keepc h.z3 (by decide)) (by decide)) (by decide))) (by decide)) (by decide)),
    (keepc (World.cell?_setCell_same _ _ _ (keepc (keepc (keepc (keepc h.z4 (by decide)) (by decide)) (by decide)) (by decide))) (by decide)),
    (World.cell?_setCell_same _ _ _ (keepc (keepc (keepc (keepc (keepc h.z5 (by decide)) (by decide)) (by decide)) (by decide)) (by decide))), ?_, ?_, ?_, ?_, ?_, ?_⟩,
    (Below.setCell (Below.setCell (Below.setCell (Below.setCell (Below.setCell (Below.setCell (Below.refl _ _) (Nat.le_refl b) _) (Nat.le_refl b) _) (Nat.le_refl b) _) (Nat.le_refl b) _) (Nat.le_refl b) _) (Nat.le_refl b) _)⟩
  · simpa only [World.frozen?_setCell] using h.f0
  · simpa only [World.frozen?_setCell] using h.f1
  · simpa only [World.frozen?_setCell] using h.f2
  · simpa only [World.frozen?_setCell] using h.f3
  · simpa only [World.frozen?_setCell] using h.f4
  · simpa only [World.frozen?_setCell] using h.f5

theorem putO {W Wf : World} {b : Nat} {v0 v1 v2 v3 v4 v5 : Value}
    (h : Wf = ((((((W.setCell ⟨b, 0, none⟩ v0).setCell ⟨b, 1, none⟩ v1).setCell ⟨b, 2, none⟩ v2).setCell ⟨b, 3, none⟩ v3).setCell ⟨b, 4, none⟩ v4).setCell ⟨b, 5, none⟩ v5)) : Only (fun j => j = b) W Wf := by
  have s : ∀ {W2 : World} (k : Nat) (u : Value), Only (fun j => j = b) W W2 → Only (fun j => j = b) W (W2.setCell ⟨b, k, none⟩ u) := fun k u h => h.setCell (.inl rfl) u
  rw [h]
  exact s _ _ (s _ _ (s _ _ (s _ _ (s _ _ (s _ _ (Only.refl _ _))))))
/-- A row of one's own stays where another block is written. -/
theorem PRow.put {W Wf : World} {S : Nat → Prop} {b n : Nat} {v : Value} {l : List Pr} (h : PRow W S v l) (o : Only (fun j => j = b) W Wf) (hn : n ≤ b) (hS : ∀ k, k ≤ b → S k) : PRow Wf (fun j => j < n) v l :=
  ⟨o.row h.row (fun k hk e => h.av k hk (hS k (by omega))), fun k hk hlt => h.av k hk (hS k (by omega))⟩

set_option maxHeartbeats 1600000 in
theorem had_no (a : Option Addr) (cap : Nat) (l : List Pr) (k : Int) (w : World) (h : Prs w a cap l) (hl : l.length ≤ 100000000000) (m : Nat) (hm : Lo l k m) (hB : hasB l k m = false) :
    Calls Try.prog 63 #[.slice a l.length cap, .int .i64 k] w fun e w' => e = .returned (.agg #[.int .i64 0, .bool false, .int .i64 0, .int .i64 0, .int .i64 0, .slice none 0 0]) ∧ Below w.heap.size w w' := by
  have ba : Below w.heap.size w (w.alloc (.cells #[.int .i64 0, .bool false, .int .i64 0, .int .i64 0, .int .i64 0, .slice none 0 0] 34)) := (Below.refl _ _).alloc (Nat.le_refl _) _
  have c := place_any a cap l k _ (h.below ba) hl m hm false hB
  have hA := AC.new w 34
  clear h hm hB hl
  go_enter Try.func63, Try.ntmps63
  go_wp2_with (go_at_call 68; ((with_reducible refine c.mono ?_); clear c; rintro e w2 ⟨rfl, hb2⟩; have hC := hA.keep hb2; have HC := Lib.hid hC; obtain ⟨z0, z1, z2, z3, z4, z5, f0, f1, f2, f3, f4, f5⟩ := hC))
  obtain ⟨Wf, hWf, r, rb⟩ := HC.out.put 0 false 0 0 0 (.slice none 0 0)
  rw [← hWf]
  obtain ⟨r0, r1, r2, r3, r4, r5, -, -, -, -, -, -⟩ := r
  refine bodyPost_ret (v := .agg #[.int .i64 0, .bool false, .int .i64 0, .int .i64 0, .int .i64 0, .slice none 0 0]) (by simp [results, Try.results63, go_sem, r0, r1, r2, r3, r4, r5]) rfl ⟨rfl, (ba.trans (hb2.mono ba.size)).trans rb⟩

set_option maxHeartbeats 1600000 in
theorem had_yes (a : Option Addr) (cap : Nat) (l : List Pr) (k v : Int) (w : World) (h : Prs w a cap l) (hl : l.length ≤ 100000000000) (m : Nat) (hm : Lo l k m) (hq : l[m]? = some (k, v)) :
    Calls Try.prog 63 #[.slice a l.length cap, .int .i64 k] w fun e w' => e = .returned (.agg #[.int .i64 0, .bool true, .int .i64 k, .int .i64 v, .int .i64 0, .slice none 0 0]) ∧ Below w.heap.size w w' := by
  have ba : Below w.heap.size w (w.alloc (.cells #[.int .i64 0, .bool false, .int .i64 0, .int .i64 0, .int .i64 0, .slice none 0 0] 34)) := (Below.refl _ _).alloc (Nat.le_refl _) _
  have hh := h.below ba
  have c := place_any a cap l k _ hh hl m hm true (by unfold hasB; rw [hq]; simp)
  have hA := AC.new w 34
  have hlt := (List.getElem?_eq_some_iff.1 hq).1
  have hlt' : (m : Int) < (l.length : Int) := by omega
  have h0' : (0 : Int) ≤ (m : Int) := by omega
  obtain ⟨b, o, rfl, c0, c1⟩ := hh.2.2.1 m _ hq
  dsimp only at c0 c1
  clear h hm hl hq hh
  go_enter Try.func63, Try.ntmps63
  go_wp2_with (go_at_call 68; ((with_reducible refine c.mono ?_); clear c; rintro e w2 ⟨rfl, hb2⟩; have d0 := (hb2.cell (World.block_lt_of_cell? _ _ c0)).trans c0; have d1 := (hb2.cell (World.block_lt_of_cell? _ _ c1)).trans c1; have hC := hA.keep hb2; have HC := Lib.hid hC; obtain ⟨z0, z1, z2, z3, z4, z5, f0, f1, f2, f3, f4, f5⟩ := hC))
  obtain ⟨Wf, hWf, r, rb⟩ := HC.out.put 0 true k v 0 (.slice none 0 0)
  rw [← hWf]
  obtain ⟨r0, r1, r2, r3, r4, r5, -, -, -, -, -, -⟩ := r
  refine bodyPost_ret (v := .agg #[.int .i64 0, .bool true, .int .i64 k, .int .i64 v, .int .i64 0, .slice none 0 0]) (by simp [results, Try.results63, go_sem, r0, r1, r2, r3, r4, r5]) rfl ⟨rfl, (ba.trans (hb2.mono ba.size)).trans rb⟩

/-- leaf.had of sorted pairs. -/
theorem had_any (a : Option Addr) (cap : Nat) (l : List Pr) (k : Int) (w : World) (h : Prs w a cap l) (hs : Srt l) (hl : l.length ≤ 100000000000) :
    Calls Try.prog 63 #[.slice a l.length cap, .int .i64 k] w fun e w' => e = .returned ((hadD l k).val none 0) ∧ Below w.heap.size w w' := by
  have L := lo_pl hs k
  unfold hadD
  cases hB : hasB l k (plN l k)
  · rw [hadL_no hs L hB]
    exact had_no a cap l k w h hl _ L hB
  · obtain ⟨v, hq⟩ := hasB_yes hB
    rw [hadL_yes L hq]
    exact had_yes a cap l k v w h hl _ L hq
end Go.Proofs.Ytadfnbmogobopaa
