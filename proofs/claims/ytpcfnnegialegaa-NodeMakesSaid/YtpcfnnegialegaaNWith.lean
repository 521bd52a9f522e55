/- Contracts of osierref1.With and osierlaw3.Pairs. -/
import Derived.Test.YtpcfnnegialegaaNPrs
import Derived.LoopTactic
namespace Go.Proofs.Ytpcfnnegialegaa
open Go.RowKit
set_option linter.all false

theorem PRow.more {w : World} {S : Nat → Prop} {v : Value} {l : List Pr} (h : PRow w S v l) (o : Obj) : PRow (w.alloc o) (fun j => S j ∨ j = w.heap.size) v l :=
  ⟨(h.below ((Below.refl _ _).alloc (Nat.le_refl _) o)).row, fun k hk hs => by
    rcases hs with hs | hs
    · exact h.av k hk hs
    · have := (h.row.lt k hk).2
      omega⟩
theorem only_below {w w0 w1 : World} {S : Nat → Prop} (b : Below w0.heap.size w0 w) (o : Only (fun k => ¬ S k) w w1) (h : ∀ k, k < w0.heap.size → S k) : Below w0.heap.size w0 w1 :=
  b.trans ⟨o.os, o.tape, o.output, o.size, fun i hi => o.block i (Nat.lt_of_lt_of_le hi b.size) (fun hn => hn (h i hi))⟩

/-- What the loop of With keeps. -/
structure WLoop (w : World) (k v : Int) (out : Value) (l' : List Pr) (wr : World) : Prop where
  row : PRow wr (fun j => j ≤ w.heap.size) out l'
  b0 : wr.cell? ⟨w.heap.size, 0, none⟩ = some (.int .i64 k)
  b1 : wr.cell? ⟨w.heap.size, 1, none⟩ = some (.int .i64 v)
  b : Below w.heap.size w wr
theorem WLoop.past {w wr : World} {k v : Int} {out : Value} {l' : List Pr} (h : WLoop w k v out l' wr) (o : Obj) : WLoop w k v out l' (wr.alloc o) :=
  ⟨h.row.below ((Below.refl _ _).alloc (Nat.le_refl _) o), cell_alloc h.b0 o, cell_alloc h.b1 o, h.b.trans (((Below.refl wr.heap.size wr).alloc (Nat.le_refl _) o).mono h.b.size)⟩
/-- Behind an append. -/
theorem WLoop.push {w wr w1 : World} {k v : Int} {out out' : Value} {l' l2 : List Pr} {c : Nat} (h : WLoop w k v out l' wr)
    (hR : PRow w1 (fun j => j ≤ w.heap.size ∨ j = c) out' l2) (hc : ∀ q u, (q.block ≤ w.heap.size ∨ q.block = c) → wr.cell? q = some u → w1.cell? q = some u) (hO : Only (fun j => ¬ (j ≤ w.heap.size ∨ j = c)) wr w1) : WLoop w k v out' l2 w1 :=
  ⟨⟨hR.row, fun j hj hs => hR.av j hj (.inl hs)⟩, hc _ _ (.inl (Nat.le_refl _)) h.b0, hc _ _ (.inl (Nat.le_refl _)) h.b1, only_below (w0 := w) h.b hO (fun j hj => .inl (by omega))⟩

/-- What With tells. -/
def WithSays (w : World) (n : Nat) (e : Ending) (w' : World) : Prop :=
  ∃ ao cp l', e = .returned (.slice ao (l' : List Pr).length cp) ∧ l'.length ≤ n ∧ Prs w' ao cp l' ∧ Below w.heap.size w w'

set_option maxRecDepth 100000 in
set_option maxHeartbeats 6400000 in
theorem with_any (a : Option Addr) (cap : Nat) (l : List Pr) (k v : Int) (w : World) (h : Prs w a cap l) (hl : l.length ≤ 1000) :
    Calls Try.prog 26 #[.slice a l.length cap, .agg #[.int .i64 k, .int .i64 v]] w (WithSays w (l.length + 1)) := by
  have HH := Lib.hid h
  have hc1 := h.1
  have hc2 := h.2.1
  clear h
  unfold maxLen at hc2
  have b0 : Below w.heap.size w (w.alloc (.cells #[.int .i64 k, .int .i64 v] 29)) := (Below.refl _ _).alloc (Nat.le_refl _) _
  go_enter Try.func26, Try.ntmps26
  go_wp2_with (fail)
  go_loopw [5, 6, 11] (fun out done i wr => ∃ (n : Nat) (d : Bool) (ao : Option Addr) (cp m : Nat) (l' : List Pr), n ≤ l.length ∧ i = .int .i64 n ∧ done = .bool d ∧ out = .slice ao m cp ∧ m = l'.length ∧ m ≤ n + d.toNat ∧ WLoop w k v out l' wr) (fun _ _ i _ => l.length - (intOf i).toNat)
  case atStart => exact ⟨0, false, none, 0, 0, [], Nat.zero_le _, rfl, rfl, rfl, rfl, Nat.le_refl _, ⟨PRow.nil _ _, by simp, by simp, b0⟩⟩
  case round =>
    obtain ⟨n, d, ao, cp, m, l', hn, rfl, rfl, rfl, rfl, hln, hW⟩ := hrel
    have hlw : w.heap.size < wr.heap.size := World.block_lt_of_cell? wr _ hW.b0
    obtain ⟨_, _, hcp1, hcp2⟩ := hW.row.form
    have hdn : d.toNat ≤ 1 := by cases d <;> simp
    by_cases hlt : n < l.length
    · obtain ⟨q, hq⟩ : ∃ q, l[n]? = some q := ⟨_, List.getElem?_eq_getElem hlt⟩
      obtain ⟨b, o, rfl, c0, c1⟩ := (HH.out.below hW.b).2.2 n q hq
      obtain ⟨x0, x1⟩ := q
      dsimp only at c0 c1
      clear hq
      have a0 := cell_alloc hW.b0 (.cells #[.int .i64 x0, .int .i64 x1] 29)
      have a1 := cell_alloc hW.b1 (.cells #[.int .i64 x0, .int .i64 x1] 29)
      have e0 : (wr.alloc (.cells #[.int .i64 x0, .int .i64 x1] 29)).cell? ⟨wr.heap.size, 0, none⟩ = some (.int .i64 x0) := by simp
      have e1 : (wr.alloc (.cells #[.int .i64 x0, .int .i64 x1] 29)).cell? ⟨wr.heap.size, 1, none⟩ = some (.int .i64 x1) := by simp
      have HP := Lib.hid (hW.row.more (.cells #[.int .i64 x0, .int .i64 x1] 29))
      have hlen : l'.length ≤ 1001 := by omega
      have HS : Hid (∀ j, (j ≤ w.heap.size ∨ j = wr.heap.size) → j < (wr.alloc (.cells #[.int .i64 x0, .int .i64 x1] 29)).heap.size) := Lib.hid (fun j hj => by simp; omega)
      have HL := Lib.hid (hW.past (.cells #[.int .i64 x0, .int .i64 x1] 29))
      clear hW
      cases d
      · simp only [Bool.toNat_false] at hdn
        by_cases hge : k ≤ x0
        · by_cases hne : x0 = k
          · have hne' : (x0 != k) = false := by simp [hne]
            clear hne
            go_wp2_with (first | (at_builtin; refine wpList_push rfl (.tmp 24) (.tmp 26) rfl (fun j => j ≤ w.heap.size ∨ j = wr.heap.size) _ l' k v rfl HP.out HS.out _ rfl (by simp) (by omega) ?_; intro ao1 cp1 w1 hm1 hc1 hR1 hk1 hO1; have HQ := Lib.hid (HL.out.push hR1 hk1 hO1); have HR1 := Lib.hid hR1; have y0 := hk1 ⟨wr.heap.size, 0, none⟩ _ (.inr rfl) e0; have y1 := hk1 ⟨wr.heap.size, 1, none⟩ _ (.inr rfl) e1; have a0 := HQ.out.b0; have a1 := HQ.out.b1; have hs1 := hO1.size; clear hR1 hk1 hO1; unfold maxLen at hm1))
            go_roundw
            case rel => exact ⟨n + 1, true, _, _, _, (l' ++ [(k, v)]), by omega, by go_num, rfl, rfl, by simp, by simp at hln ⊢; omega, HQ.out⟩
            case measure => simp [intOf]; omega
          · have hne' : (x0 != k) = true := by simp [hne]
            clear hne
            go_wp2_with (first | (at_builtin; refine wpList_push rfl (.tmp 24) (.tmp 26) rfl (fun j => j ≤ w.heap.size ∨ j = wr.heap.size) _ l' k v rfl HP.out HS.out _ rfl (by simp) (by omega) ?_; intro ao1 cp1 w1 hm1 hc1 hR1 hk1 hO1; have HQ := Lib.hid (HL.out.push hR1 hk1 hO1); have HR1 := Lib.hid hR1; have y0 := hk1 ⟨wr.heap.size, 0, none⟩ _ (.inr rfl) e0; have y1 := hk1 ⟨wr.heap.size, 1, none⟩ _ (.inr rfl) e1; have a0 := HQ.out.b0; have a1 := HQ.out.b1; have hs1 := hO1.size; clear hR1 hk1 hO1; unfold maxLen at hm1) | (at_builtin; refine wpList_push rfl (.tmp 33) (.tmp 35) rfl (fun j => j ≤ w.heap.size ∨ j = wr.heap.size) _ (l' ++ [(k, v)]) x0 x1 rfl HR1.out (fun j hj => by have := HS.out j hj; omega) _ rfl (by simp) (by simp; omega) ?_; intro ao2 cp2 w2 hm2 hc2 hR2 hk2 hO2; have HF := Lib.hid (HQ.out.push hR2 hk2 hO2); clear hR2 hk2 hO2; unfold maxLen at hm2))
            go_roundw
            case rel => exact ⟨n + 1, true, _, _, _, ((l' ++ [(k, v)]) ++ [(x0, x1)]), by omega, by go_num, rfl, rfl, by simp, by simp at hln ⊢; omega, by have := HF.out; rw [List.length_append] at this; exact this⟩
            case measure => simp [intOf]; omega
        · have hge' : x0 < k := by omega
          have hne' : (x0 != k) = true := by simp; omega
          clear hge
          go_wp2_with (first | (at_builtin; refine wpList_push rfl (.tmp 33) (.tmp 35) rfl (fun j => j ≤ w.heap.size ∨ j = wr.heap.size) _ l' x0 x1 rfl HP.out HS.out _ rfl (by simp) (by omega) ?_; intro ao2 cp2 w2 hm2 hc2 hR2 hk2 hO2; have HF := Lib.hid (HL.out.push hR2 hk2 hO2); clear hR2 hk2 hO2; unfold maxLen at hm2))
          go_roundw
          case rel => exact ⟨n + 1, false, _, _, _, (l' ++ [(x0, x1)]), by omega, by go_num, rfl, rfl, by simp, by simp at hln ⊢; omega, HF.out⟩
          case measure => simp [intOf]; omega
      · by_cases hne : x0 = k
        · have hne' : (x0 != k) = false := by simp [hne]
          clear hne
          go_wp2_with (fail)
          go_roundw
          case rel => exact ⟨n + 1, true, _, _, _, l', by omega, by go_num, rfl, rfl, rfl, by simp at hln ⊢; omega, HL.out⟩
          case measure => simp [intOf]; omega
        · have hne' : (x0 != k) = true := by simp [hne]
          clear hne
          go_wp2_with (first | (at_builtin; refine wpList_push rfl (.tmp 33) (.tmp 35) rfl (fun j => j ≤ w.heap.size ∨ j = wr.heap.size) _ l' x0 x1 rfl HP.out HS.out _ rfl (by simp) (by omega) ?_; intro ao2 cp2 w2 hm2 hc2 hR2 hk2 hO2; have HF := Lib.hid (HL.out.push hR2 hk2 hO2); clear hR2 hk2 hO2; unfold maxLen at hm2))
          go_roundw
          case rel => exact ⟨n + 1, true, _, _, _, (l' ++ [(x0, x1)]), by omega, by go_num, rfl, rfl, by simp, by simp at hln ⊢; omega, HF.out⟩
          case measure => simp [intOf]; omega
    · obtain rfl : n = l.length := by omega
      have HL := Lib.hid hW
      have b0 := hW.b0
      have b1 := hW.b1
      have HS : Hid (∀ j, (j ≤ w.heap.size ∨ j = w.heap.size) → j < wr.heap.size) := Lib.hid (fun j hj => by omega)
      have HP : Hid (PRow wr (fun j => j ≤ w.heap.size ∨ j = w.heap.size) (.slice ao l'.length cp) l') := Lib.hid (hW.row.sub (fun j _ hj => by omega))
      clear hW
      cases d
      · go_wp2_with (at_builtin; refine wpList_push rfl (.tmp 40) (.tmp 42) rfl (fun j => j ≤ w.heap.size ∨ j = w.heap.size) _ l' k v rfl HP.out HS.out _ rfl (by simp) (by omega) ?_; intro ao1 cp1 w1 hm1 hc1 hR1 hk1 hO1; have HQ := Lib.hid (HL.out.push hR1 hk1 hO1); clear hR1 hk1 hO1; unfold maxLen at hm1)
        go_ret
        exact ⟨_, _, l' ++ [(k, v)], by simp, by simp at hln ⊢; omega, HQ.out.row.prs (by simp), HQ.out.b⟩
      · go_wp2_with (fail)
        go_ret
        exact ⟨_, _, l', rfl, by simp at hln; omega, HL.out.row.prs rfl, HL.out.b⟩
end Go.Proofs.Ytpcfnnegialegaa
