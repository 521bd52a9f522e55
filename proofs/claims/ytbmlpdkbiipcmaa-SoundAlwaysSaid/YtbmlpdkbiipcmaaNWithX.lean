/- osierref1.With: exactly what it tells; its plain mathematics. -/
import Derived.Test.YtbmlpdkbiipcmaaNPrs
import Derived.LoopTactic
namespace Go.Proofs.Ytbmlpdkbiipcmaa
open Go.RowKit
set_option linter.all false

theorem PRow.more {w : World} {S : Nat → Prop} {v : Value} {l : List Pr} (h : PRow w S v l) (o : Obj) : PRow (w.alloc o) (fun j => S j ∨ j = w.heap.size) v l :=
  ⟨(h.below ((Below.refl _ _).alloc (Nat.le_refl _) o)).row, fun k hk hs => by
    rcases hs with hs | hs
    · exact h.av k hk hs
    · have := (h.row.lt k hk).2
      omega⟩
theorem only_below {w w0 w1 : World} {S : Nat → Prop} (b : Below w0.heap.size w0 w) (o : Only (fun k => ¬ S k) w w1) (h : ∀ k, k < w0.heap.size → S k) : Below w0.heap.size w0 w1 :=
  b.trans ⟨o.os, o.tape, o.output, o.size, fun i hi => o.block i (Nat.lt_of_lt_of_le hi b.size) (fun hn => hn (h i hi))⟩

/-- What the loop of With keeps. -/
structure WLoop (w : World) (k v : Int) (out : Value) (l' : List Pr) (wr : World) : Prop where
  row : PRow wr (fun j => j ≤ w.heap.size) out l'
  b0 : wr.cell? ⟨w.heap.size, 0, none⟩ = some (.int .i64 k)
  b1 : wr.cell? ⟨w.heap.size, 1, none⟩ = some (.int .i64 v)
  b : Below w.heap.size w wr
theorem WLoop.past {w wr : World} {k v : Int} {out : Value} {l' : List Pr} (h : WLoop w k v out l' wr) (o : Obj) : WLoop w k v out l' (wr.alloc o) :=
  ⟨h.row.below ((Below.refl _ _).alloc (Nat.le_refl _) o), cell_alloc h.b0 o, cell_alloc h.b1 o, h.b.trans (((Below.refl wr.heap.size wr).alloc (Nat.le_refl _) o).mono h.b.size)⟩
/-- Behind an append. -/
theorem WLoop.push {w wr w1 : World} {k v : Int} {out out' : Value} {l' l2 : List Pr} {c : Nat} (h : WLoop w k v out l' wr)
    (hR : PRow w1 (fun j => j ≤ w.heap.size ∨ j = c) out' l2) (hc : ∀ q u, (q.block ≤ w.heap.size ∨ q.block = c) → wr.cell? q = some u → w1.cell? q = some u) (hO : Only (fun j => ¬ (j ≤ w.heap.size ∨ j = c)) wr w1) : WLoop w k v out' l2 w1 :=
  ⟨⟨hR.row, fun j hj hs => hR.av j hj (.inl hs)⟩, hc _ _ (.inl (Nat.le_refl _)) h.b0, hc _ _ (.inl (Nat.le_refl _)) h.b1, only_below (w0 := w) h.b hO (fun j hj => .inl (by omega))⟩

/-! ### The plain mathematics of With -/

def wStep (k v : Int) (s : List Pr × Bool) (x : Pr) : List Pr × Bool :=
  if s.2 = false ∧ k ≤ x.1 then (if x.1 = k then (s.1 ++ [(k, v)], true) else (s.1 ++ [(k, v)] ++ [x], true))
  else (if x.1 = k then s else (s.1 ++ [x], s.2))
def wAcc (k v : Int) (l : List Pr) : Nat → List Pr × Bool
  | 0 => ([], false)
  | n + 1 => wStep k v (wAcc k v l n) (l.getD n (0, 0))
def withL (l : List Pr) (k v : Int) : List Pr := if (wAcc k v l l.length).2 = true then (wAcc k v l l.length).1 else (wAcc k v l l.length).1 ++ [(k, v)]
theorem wAcc_next {k v : Int} {l l' : List Pr} {n : Nat} {d : Bool} {x0 x1 : Int} (h : wAcc k v l n = (l', d)) (hq : l.getD n (0, 0) = (x0, x1)) : wAcc k v l (n + 1) = wStep k v (l', d) (x0, x1) := by
  show wStep k v (wAcc k v l n) (l.getD n (0, 0)) = _
  rw [h, hq]
theorem wS_ge_eq {k v x0 x1 : Int} {l' : List Pr} (h : k ≤ x0) (hn : (x0 != k) = false) : wStep k v (l', false) (x0, x1) = (l' ++ [(k, v)], true) := by
  have : x0 = k := by simpa using hn
  unfold wStep; rw [if_pos ⟨rfl, h⟩, if_pos this]
theorem wS_ge_ne {k v x0 x1 : Int} {l' : List Pr} (h : k ≤ x0) (hn : (x0 != k) = true) : wStep k v (l', false) (x0, x1) = (l' ++ [(k, v)] ++ [(x0, x1)], true) := by
  have : ¬ x0 = k := by simpa using hn
  unfold wStep; rw [if_pos ⟨rfl, h⟩, if_neg this]
theorem wS_lt {k v x0 x1 : Int} {l' : List Pr} (h : x0 < k) : wStep k v (l', false) (x0, x1) = (l' ++ [(x0, x1)], false) := by
  unfold wStep; rw [if_neg (fun hh => by have := hh.2; dsimp only at this; omega), if_neg (by dsimp only; omega)]
theorem wS_t_eq {k v x0 x1 : Int} {l' : List Pr} (hn : (x0 != k) = false) : wStep k v (l', true) (x0, x1) = (l', true) := by
  have : x0 = k := by simpa using hn
  unfold wStep; rw [if_neg (fun hh => by cases hh.1), if_pos this]
theorem wS_t_ne {k v x0 x1 : Int} {l' : List Pr} (hn : (x0 != k) = true) : wStep k v (l', true) (x0, x1) = (l' ++ [(x0, x1)], true) := by
  have : ¬ x0 = k := by simpa using hn
  unfold wStep; rw [if_neg (fun hh => by cases hh.1), if_neg this]

/-- What With tells. -/
def WithIs (w : World) (L : List Pr) (e : Ending) (w' : World) : Prop :=
  ∃ ao cp, e = .returned (.slice ao L.length cp) ∧ Prs w' ao cp L ∧ Below w.heap.size w w'
def WithSays (w : World) (n : Nat) (e : Ending) (w' : World) : Prop :=
  ∃ ao cp l', e = .returned (.slice ao (l' : List Pr).length cp) ∧ l'.length ≤ n ∧ Prs w' ao cp l' ∧ Below w.heap.size w w'

set_option maxRecDepth 100000 in
set_option maxHeartbeats 6400000 in
theorem with_is (a : Option Addr) (cap : Nat) (l : List Pr) (k v : Int) (w : World) (h : Prs w a cap l) (hl : l.length ≤ 1000) :
    Calls Try.prog 21 #[.slice a l.length cap, .agg #[.int .i64 k, .int .i64 v]] w (fun e w' => WithIs w (withL l k v) e w' ∧ (withL l k v).length ≤ l.length + 1) := by
  have HH := Lib.hid h
  have hc1 := h.1
  have hc2 := h.2.1
  clear h
  unfold maxLen at hc2
  have b0 : Below w.heap.size w (w.alloc (.cells #[.int .i64 k, .int .i64 v] 24)) := (Below.refl _ _).alloc (Nat.le_refl _) _
  go_enter Try.func21, Try.ntmps21
  go_wp2_with (fail)
  go_loopw [5, 6, 11] (fun out done i wr => ∃ (n : Nat) (d : Bool) (ao : Option Addr) (cp m : Nat) (l' : List Pr), n ≤ l.length ∧ i = .int .i64 n ∧ done = .bool d ∧ out = .slice ao m cp ∧ m = l'.length ∧ m ≤ n + d.toNat ∧ wAcc k v l n = (l', d) ∧ WLoop w k v out l' wr) (fun _ _ i _ => l.length - (intOf i).toNat)
  case atStart => exact ⟨0, false, none, 0, 0, [], Nat.zero_le _, rfl, rfl, rfl, rfl, Nat.le_refl _, rfl, ⟨PRow.nil _ _, by simp, by simp, b0⟩⟩
  case round =>
    obtain ⟨n, d, ao, cp, m, l', hn, rfl, rfl, rfl, rfl, hln, hacc, hW⟩ := hrel
    have HA := Lib.hid hacc
    clear hacc
    have hlw : w.heap.size < wr.heap.size := World.block_lt_of_cell? wr _ hW.b0
    obtain ⟨_, _, hcp1, hcp2⟩ := hW.row.form
    have hdn : d.toNat ≤ 1 := by cases d <;> simp
    by_cases hlt : n < l.length
    · obtain ⟨q, hq⟩ : ∃ q, l[n]? = some q := ⟨_, List.getElem?_eq_getElem hlt⟩
      obtain ⟨b, o, rfl, c0, c1⟩ := (HH.out.below hW.b).2.2 n q hq
      obtain ⟨x0, x1⟩ := q
      dsimp only at c0 c1
      have HQ0 : Hid (l.getD n (0, 0) = (x0, x1)) := Lib.hid (by simp [List.getD, hq])
      clear hq
      have a0 := cell_alloc hW.b0 (.cells #[.int .i64 x0, .int .i64 x1] 24)
      have a1 := cell_alloc hW.b1 (.cells #[.int .i64 x0, .int .i64 x1] 24)
      have e0 : (wr.alloc (.cells #[.int .i64 x0, .int .i64 x1] 24)).cell? ⟨wr.heap.size, 0, none⟩ = some (.int .i64 x0) := by simp
      have e1 : (wr.alloc (.cells #[.int .i64 x0, .int .i64 x1] 24)).cell? ⟨wr.heap.size, 1, none⟩ = some (.int .i64 x1) := by simp
      have HP := Lib.hid (hW.row.more (.cells #[.int .i64 x0, .int .i64 x1] 24))
      have hlen : l'.length ≤ 1001 := by omega
      have HS : Hid (∀ j, (j ≤ w.heap.size ∨ j = wr.heap.size) → j < (wr.alloc (.cells #[.int .i64 x0, .int .i64 x1] 24)).heap.size) := Lib.hid (fun j hj => by simp; omega)
      have HL := Lib.hid (hW.past (.cells #[.int .i64 x0, .int .i64 x1] 24))
      clear hW
      cases d
      · simp only [Bool.toNat_false] at hdn
        by_cases hge : k ≤ x0
        · have HG := Lib.hid hge
          by_cases hne : x0 = k
          · have hne' : (x0 != k) = false := by simp [hne]
            have HN := Lib.hid hne'
            clear hne
            go_wp2_with (first | (at_builtin; refine wpList_push rfl (.tmp 24) (.tmp 26) rfl (fun j => j ≤ w.heap.size ∨ j = wr.heap.size) _ l' k v rfl HP.out HS.out _ rfl (by simp) (by omega) ?_; intro ao1 cp1 w1 hm1 hc1 hR1 hk1 hO1; have HQ := Lib.hid (HL.out.push hR1 hk1 hO1); have HR1 := Lib.hid hR1; have y0 := hk1 ⟨wr.heap.size, 0, none⟩ _ (.inr rfl) e0; have y1 := hk1 ⟨wr.heap.size, 1, none⟩ _ (.inr rfl) e1; have a0 := HQ.out.b0; have a1 := HQ.out.b1; have hs1 := hO1.size; clear hR1 hk1 hO1; unfold maxLen at hm1))
            go_roundw
            case rel => exact ⟨n + 1, true, _, _, _, (l' ++ [(k, v)]), by omega, by go_num, rfl, rfl, by simp, by simp at hln ⊢; omega, (wAcc_next HA.out HQ0.out).trans (wS_ge_eq HG.out HN.out), HQ.out⟩
            case measure => simp [intOf]; omega
          · have hne' : (x0 != k) = true := by simp [hne]
            have HN := Lib.hid hne'
            clear hne
            go_wp2_with (first | (at_builtin; refine wpList_push rfl (.tmp 24) (.tmp 26) rfl (fun j => j ≤ w.heap.size ∨ j = wr.heap.size) _ l' k v rfl HP.out HS.out _ rfl (by simp) (by omega) ?_; intro ao1 cp1 w1 hm1 hc1 hR1 hk1 hO1; have HQ := Lib.hid (HL.out.push hR1 hk1 hO1); have HR1 := Lib.hid hR1; have y0 := hk1 ⟨wr.heap.size, 0, none⟩ _ (.inr rfl) e0; have y1 := hk1 ⟨wr.heap.size, 1, none⟩ _ (.inr rfl) e1; have a0 := HQ.out.b0; have a1 := HQ.out.b1; have hs1 := hO1.size; clear hR1 hk1 hO1; unfold maxLen at hm1) | (at_builtin; refine wpList_push rfl (.tmp 33) (.tmp 35) rfl (fun j => j ≤ w.heap.size ∨ j = wr.heap.size) _ (l' ++ [(k, v)]) x0 x1 rfl HR1.out (fun j hj => by have := HS.out j hj; omega) _ rfl (by simp) (by simp; omega) ?_; intro ao2 cp2 w2 hm2 hc2 hR2 hk2 hO2; have HF := Lib.hid (HQ.out.push hR2 hk2 hO2); clear hR2 hk2 hO2; unfold maxLen at hm2))
            go_roundw
            case rel => exact ⟨n + 1, true, _, _, _, ((l' ++ [(k, v)]) ++ [(x0, x1)]), by omega, by go_num, rfl, rfl, by simp, by simp at hln ⊢; omega, (wAcc_next HA.out HQ0.out).trans (wS_ge_ne HG.out HN.out), by have := HF.out; rw [List.length_append] at this; exact this⟩
            case measure => simp [intOf]; omega
        · have hge' : x0 < k := by omega
          have HG := Lib.hid hge'
          have hne' : (x0 != k) = true := by simp; omega
          clear hge
          go_wp2_with (first | (at_builtin; refine wpList_push rfl (.tmp 33) (.tmp 35) rfl (fun j => j ≤ w.heap.size ∨ j = wr.heap.size) _ l' x0 x1 rfl HP.out HS.out _ rfl (by simp) (by omega) ?_; intro ao2 cp2 w2 hm2 hc2 hR2 hk2 hO2; have HF := Lib.hid (HL.out.push hR2 hk2 hO2); clear hR2 hk2 hO2; unfold maxLen at hm2))
          go_roundw
          case rel => exact ⟨n + 1, false, _, _, _, (l' ++ [(x0, x1)]), by omega, by go_num, rfl, rfl, by simp, by simp at hln ⊢; omega, (wAcc_next HA.out HQ0.out).trans (wS_lt HG.out), HF.out⟩
          case measure => simp [intOf]; omega
      · by_cases hne : x0 = k
        · have hne' : (x0 != k) = false := by simp [hne]
          have HN := Lib.hid hne'
          clear hne
          go_wp2_with (fail)
          go_roundw
          case rel => exact ⟨n + 1, true, _, _, _, l', by omega, by go_num, rfl, rfl, rfl, by simp at hln ⊢; omega, (wAcc_next HA.out HQ0.out).trans (wS_t_eq HN.out), HL.out⟩
          case measure => simp [intOf]; omega
        · have hne' : (x0 != k) = true := by simp [hne]
          have HN := Lib.hid hne'
          clear hne
          go_wp2_with (first | (at_builtin; refine wpList_push rfl (.tmp 33) (.tmp 35) rfl (fun j => j ≤ w.heap.size ∨ j = wr.heap.size) _ l' x0 x1 rfl HP.out HS.out _ rfl (by simp) (by omega) ?_; intro ao2 cp2 w2 hm2 hc2 hR2 hk2 hO2; have HF := Lib.hid (HL.out.push hR2 hk2 hO2); clear hR2 hk2 hO2; unfold maxLen at hm2))
          go_roundw
          case rel => exact ⟨n + 1, true, _, _, _, (l' ++ [(x0, x1)]), by omega, by go_num, rfl, rfl, by simp, by simp at hln ⊢; omega, (wAcc_next HA.out HQ0.out).trans (wS_t_ne HN.out), HF.out⟩
          case measure => simp [intOf]; omega
    · obtain rfl : n = l.length := by omega
      have HL := Lib.hid hW
      have b0 := hW.b0
      have b1 := hW.b1
      have HS : Hid (∀ j, (j ≤ w.heap.size ∨ j = w.heap.size) → j < wr.heap.size) := Lib.hid (fun j hj => by omega)
      have HP : Hid (PRow wr (fun j => j ≤ w.heap.size ∨ j = w.heap.size) (.slice ao l'.length cp) l') := Lib.hid (hW.row.sub (fun j _ hj => by omega))
      clear hW
      cases d
      · go_wp2_with (at_builtin; refine wpList_push rfl (.tmp 40) (.tmp 42) rfl (fun j => j ≤ w.heap.size ∨ j = w.heap.size) _ l' k v rfl HP.out HS.out _ rfl (by simp) (by omega) ?_; intro ao1 cp1 w1 hm1 hc1 hR1 hk1 hO1; have HQ := Lib.hid (HL.out.push hR1 hk1 hO1); clear hR1 hk1 hO1; unfold maxLen at hm1)
        go_ret
        have eL : withL l k v = l' ++ [(k, v)] := by unfold withL; rw [HA.out]; rfl
        rw [eL]
        exact ⟨⟨_, _, by simp, HQ.out.row.prs (by simp), HQ.out.b⟩, by simp at hln ⊢; omega⟩
      · go_wp2_with (fail)
        go_ret
        have eL : withL l k v = l' := by unfold withL; rw [HA.out]; rfl
        rw [eL]
        exact ⟨⟨_, _, rfl, HL.out.row.prs rfl, HL.out.b⟩, by simp at hln; omega⟩

theorem with_any (a : Option Addr) (cap : Nat) (l : List Pr) (k v : Int) (w : World) (h : Prs w a cap l) (hl : l.length ≤ 1000) :
    Calls Try.prog 21 #[.slice a l.length cap, .agg #[.int .i64 k, .int .i64 v]] w (WithSays w (l.length + 1)) :=
  (with_is a cap l k v w h hl).mono fun e w' ⟨⟨ao, cp, he, hp, hb⟩, hn⟩ => ⟨ao, cp, _, he, hn, hp, hb⟩
end Go.Proofs.Ytbmlpdkbiipcmaa
