/- What else is wanted of the ground. No condition: definitions and lemmas. -/
import Derived.Test.YtpdliokpbnpppaaAdR
import Derived.Test.YtpdliokpbnpppaaAeA
import Derived.Test.YtpdliokpbnpppaaAeC
import Derived.Test.YtpdliokpbnpppaaAeD
import Derived.Test.YtpdliokpbnpppaaAeE
import Derived.Test.YtpdliokpbnpppaaAeG
import Derived.Test.YtpdliokpbnpppaaAeM
import Derived.Test.YtpdliokpbnpppaaBlZ
import Derived.Test.YtpdliokpbnpppaaLfA
import Derived.Test.YtpdliokpbnpppaaLfB
import Derived.Test.YtpdliokpbnpppaaLfC
import Derived.Test.YtpdliokpbnpppaaLfE
import Derived.Test.YtpdliokpbnpppaaLfF
import Derived.Test.YtpdliokpbnpppaaLfG
import Derived.Test.YtpdliokpbnpppaaLfM
import Derived.Test.YtpdliokpbnpppaaLfO
import Derived.Test.YtpdliokpbnpppaaMdA
import Derived.Test.YtpdliokpbnpppaaMdE
import Derived.Test.YtpdliokpbnpppaaMdF
import Derived.Test.YtpdliokpbnpppaaMdM
import Derived.Test.YtpdliokpbnpppaaMdN
import Derived.Test.YtpdliokpbnpppaaNuG
import Derived.Test.YtpdliokpbnpppaaPoG
import Derived.Test.YtpdliokpbnpppaaPrG
import Derived.Test.YtpdliokpbnpppaaRfG
import Derived.Test.YtpdliokpbnpppaaRwG
import Derived.Test.YtpdliokpbnpppaaSlB
import Derived.Test.YtpdliokpbnpppaaSlM
import Derived.Test.YtpdliokpbnpppaaSlP
import Derived.Test.YtpdliokpbnpppaaSlT
import Derived.Test.YtpdliokpbnpppaaSlU
import Derived.Test.YtpdliokpbnpppaaStH
import Derived.Test.YtpdliokpbnpppaaTrA
import Derived.Test.YtpdliokpbnpppaaTrD
import Derived.Test.YtpdliokpbnpppaaTrE
import Derived.Test.YtpdliokpbnpppaaTrF
import Derived.Test.YtpdliokpbnpppaaTrM
import Derived.Test.YtpdliokpbnpppaaTrO
import Derived.Test.YtpdliokpbnpppaaTrR
import Derived.Test.YtpdliokpbnpppaaTrS
import Derived.Test.YtpdliokpbnpppaaTrU
import Derived.Test.YtpdliokpbnpppaaTsA
import Derived.Test.YtpdliokpbnpppaaTsC
import Derived.Test.YtpdliokpbnpppaaTsF
import Derived.Test.YtpdliokpbnpppaaTsI
import Derived.Below
import Derived.Laws.OwnMore
import Derived.Deep.RegionLaw
import Derived.Deep.Draws
import Derived.Lib.Hide
import Derived.LoopTactic
import Derived.WalkKit
import Derived.ProofKit
import Derived.Deep.QuietTactic
import Derived.BigQuiet
import Derived.Calls
import Derived.IntWalk
import Derived.RegionTactic
import Derived.ChangeAlike
import Derived.Deep.Slices
import Derived.Deep.Fields
import Derived.ChangeArms
import Derived.Lib.AppendZeros
import Derived.Lib.AppendZerosOnto
import Derived.SizedLaws
import Derived.Deep.RegionHeld3
import Derived.Deep.CutRange
import Derived.Deep.CutBlock
import Derived.Lib.SliceRun
import Derived.Deep.LoopGhost
import Derived.OwnWalk
import Derived.StillTailTactics
import Derived.OpenShut
import Derived.ChangeOld
import Derived.BigRegion
import Derived.Shelf.SlSortCmp.QuietGrown
namespace Go.Proofs.Ytpdliokpbnpppaa
open Go.RowKit Go.Deep Go.ChangeShapes Go.WideShapes
set_option linter.all false
set_option maxRecDepth 20000

theorem cell_alloc {W : World} {q : Addr} {v : Value} (h : W.cell? q = some v) (o : Obj) : (W.alloc o).cell? q = some v :=
  (((Below.refl W.heap.size W).alloc (Nat.le_refl _) o).cell (p := q) (World.block_lt_of_cell? W q h)).trans h

section
variable {H : Type} {enc : TypeId × Value → H} {w : World} {fuel : Nat} {x : DataW H × List MemPlace}

end

theorem cellsP_snoc (l : List Pr) (q : Pr) : cellsP (l ++ [q]) = cellsP l ++ [.int .i64 q.1, .int .i64 q.2] := by
  induction l with
  | nil => rfl
  | cons x l ih => simp [cellsP, ih]
/-- A pair is appended onto a row of one's own. -/
theorem wpList_push {w : World} {ops : Array Oper} {rest : List Oper} {o : Oper} {a : Act} {Q : Exit → Act → World → Prop} (hgd : o.guard = none) (s x : Operand)
    (ho : o.op = .call { callee := .builtin .append, args := #[s, x], argTypes := #[37, 37] })
    (S : Nat → Prop) (v : Value) (l : List Pr) (k u : Int) (hs : a.eval s = v) (h : PRow w S v l) (hS : ∀ k, S k → k < w.heap.size)
    (g : Nat) (hx : a.eval x = .slice (some ⟨g, 0, none⟩) 1 1) (hg : g = w.heap.size) (hl : l.length ≤ 100000000000)
    (H : ∀ ao cap w', cap ≤ maxLen → l.length + 1 ≤ cap → PRow w' S (.slice ao (l.length + 1) cap) (l ++ [(k, u)]) → (∀ q c, S q.block → w.cell? q = some c → w'.cell? q = some c) → Only (fun k => ¬ S k) w w' →
      wpList Try.prog ops Q rest (a.put o.dst (.slice ao (l.length + 1) cap)) w') :
    wpList Try.prog ops Q (o :: rest) a (w.alloc (.cells #[.int .i64 k, .int .i64 u] 42)) := by
  subst hg
  have hA : Below w.heap.size w (w.alloc (.cells #[.int .i64 k, .int .i64 u] 42)) := (Below.refl _ _).alloc (Nat.le_refl _) _
  have h' := h.below hA
  obtain ⟨i, hi, hz, hs1, hs2⟩ := info_parts infoPair
  refine wpList_own_append hgd s x 37 ho 42 i _ 2 16 Try.underlying37 hi hz hs1 hs2 rfl (by decide) v l.length (cellsP l) hs h'.row _ 1 [.int .i64 k, .int .i64 u] hx
    (.inr ⟨_, _, rfl, cells_new _ #[.int .i64 k, .int .i64 u] _⟩) rfl (by intro y hy; simp at hy; rcases hy with rfl | rfl <;> rfl) (by unfold maxLen; omega) (by omega) ?_
  intro v' w' hown hgr hk
  obtain ⟨ao, cap, rfl, h1, h2⟩ := row_form hown
  have hav : ∀ k, (Value.slice ao (l.length + 1) cap).ownBlock = some k → ¬ S k := by
    intro j hj hs
    rcases hk j hj with e | e
    · exact h.av j e hs
    · have := hS j hs
      have := hA.size
      omega
  refine H ao cap w' h2 h1 ⟨by simpa [cellsP_snoc] using hown, hav⟩ (fun q c hq hc => ?_) ?_
  · have hne : some q.block ≠ v.ownBlock := fun e => h.av q.block e.symm hq
    exact hgr.cell (((hA.cell (World.block_lt_of_cell? w q hc)).trans hc)) hne
  · exact ((Only.ofBelow hA).mono (fun i hi hlt => absurd hlt (by omega))).grown hgr (fun j hj _ hs => h.av j hj hs)

section
variable {w : World} {ops : Array Oper} {o : Oper} {a : Act} {K : Act → World → Prop} {Q : Exit → Act → World → Prop} {E : Prop}
end

theorem wAcc_next {k v : Int} {l l' : List Pr} {n : Nat} {d : Bool} {x0 x1 : Int} (h : wAcc k v l n = (l', d)) (hq : l.getD n (0, 0) = (x0, x1)) : wAcc k v l (n + 1) = wStep k v (l', d) (x0, x1) := by
  show wStep k v (wAcc k v l n) (l.getD n (0, 0)) = _
  rw [h, hq]
theorem wS_ge_eq {k v x0 x1 : Int} {l' : List Pr} (h : k ≤ x0) (hn : (x0 != k) = false) : wStep k v (l', false) (x0, x1) = (l' ++ [(k, v)], true) := by
  have : x0 = k := by simpa using hn
  unfold wStep; rw [if_pos ⟨rfl, h⟩, if_pos this]
theorem wS_ge_ne {k v x0 x1 : Int} {l' : List Pr} (h : k ≤ x0) (hn : (x0 != k) = true) : wStep k v (l', false) (x0, x1) = (l' ++ [(k, v)] ++ [(x0, x1)], true) := by
  have : ¬ x0 = k := by simpa using hn
  unfold wStep; rw [if_pos ⟨rfl, h⟩, if_neg this]
theorem wS_lt {k v x0 x1 : Int} {l' : List Pr} (h : x0 < k) : wStep k v (l', false) (x0, x1) = (l' ++ [(x0, x1)], false) := by
  unfold wStep; rw [if_neg (fun hh => by have := hh.2; dsimp only at this; omega), if_neg (by dsimp only; omega)]
theorem wS_t_eq {k v x0 x1 : Int} {l' : List Pr} (hn : (x0 != k) = false) : wStep k v (l', true) (x0, x1) = (l', true) := by
  have : x0 = k := by simpa using hn
  unfold wStep; rw [if_neg (fun hh => by cases hh.1), if_pos this]
theorem wS_t_ne {k v x0 x1 : Int} {l' : List Pr} (hn : (x0 != k) = true) : wStep k v (l', true) (x0, x1) = (l' ++ [(x0, x1)], true) := by
  have : ¬ x0 = k := by simpa using hn
  unfold wStep; rw [if_neg (fun hh => by cases hh.1), if_neg this]

end Go.Proofs.Ytpdliokpbnpppaa


namespace Go.Proofs.Ytpdliokpbnpppaa
open Go.RowKit
set_option linter.all false

/-- What the loop of With keeps. -/
structure WLoop (w : World) (k v : Int) (out : Value) (l' : List Pr) (wr : World) : Prop where
  row : PRow wr (fun j => j ≤ w.heap.size) out l'
  b0 : wr.cell? ⟨w.heap.size, 0, none⟩ = some (.int .i64 k)
  b1 : wr.cell? ⟨w.heap.size, 1, none⟩ = some (.int .i64 v)
  b : Below w.heap.size w wr
theorem WLoop.past {w wr : World} {k v : Int} {out : Value} {l' : List Pr} (h : WLoop w k v out l' wr) (o : Obj) : WLoop w k v out l' (wr.alloc o) :=
  ⟨h.row.below ((Below.refl _ _).alloc (Nat.le_refl _) o), cell_alloc h.b0 o, cell_alloc h.b1 o, h.b.trans (((Below.refl wr.heap.size wr).alloc (Nat.le_refl _) o).mono h.b.size)⟩
/-- Behind an append. -/
theorem WLoop.push {w wr w1 : World} {k v : Int} {out out' : Value} {l' l2 : List Pr} {c : Nat} (h : WLoop w k v out l' wr)
    (hR : PRow w1 (fun j => j ≤ w.heap.size ∨ j = c) out' l2) (hc : ∀ q u, (q.block ≤ w.heap.size ∨ q.block = c) → wr.cell? q = some u → w1.cell? q = some u) (hO : Only (fun j => ¬ (j ≤ w.heap.size ∨ j = c)) wr w1) : WLoop w k v out' l2 w1 :=
  ⟨⟨hR.row, fun j hj hs => hR.av j hj (.inl hs)⟩, hc _ _ (.inl (Nat.le_refl _)) h.b0, hc _ _ (.inl (Nat.le_refl _)) h.b1, only_below (w0 := w) h.b hO (fun j hj => .inl (by omega))⟩

/-- What With tells. -/
def WithIs (w : World) (L : List Pr) (e : Ending) (w' : World) : Prop :=
  ∃ ao cp, e = .returned (.slice ao L.length cp) ∧ PRow w' (fun j => j < w.heap.size) (.slice ao L.length cp) L ∧ Below w.heap.size w w'
set_option maxRecDepth 100000 in
set_option maxHeartbeats 6400000 in
theorem with_is (a : Option Addr) (cap : Nat) (l : List Pr) (k v : Int) (w : World) (h : Prs w a cap l) (hl : l.length ≤ 2000000) :
    Calls Try.prog 21 #[.slice a l.length cap, .agg #[.int .i64 k, .int .i64 v]] w (fun e w' => WithIs w (withL l k v) e w' ∧ (withL l k v).length ≤ l.length + 1) := by
  have HH := Lib.hid h
  have hc1 := h.1
  have hc2 := h.2.1
  clear h
  unfold maxLen at hc2
  have b0 : Below w.heap.size w (w.alloc (.cells #[.int .i64 k, .int .i64 v] 42)) := (Below.refl _ _).alloc (Nat.le_refl _) _
  go_enter Try.func21, Try.ntmps21
  go_wp2_with (fail)
  go_loopw [5, 6, 11] (fun out done i wr => ∃ (n : Nat) (d : Bool) (ao : Option Addr) (cp m : Nat) (l' : List Pr), n ≤ l.length ∧ i = .int .i64 n ∧ done = .bool d ∧ out = .slice ao m cp ∧ m = l'.length ∧ m ≤ n + d.toNat ∧ wAcc k v l n = (l', d) ∧ WLoop w k v out l' wr) (fun _ _ i _ => l.length - (intOf i).toNat)
  case atStart => exact ⟨0, false, none, 0, 0, [], Nat.zero_le _, rfl, rfl, rfl, rfl, Nat.le_refl _, rfl, ⟨PRow.nil _ _, by simp, by simp, b0⟩⟩
  case round =>
    obtain ⟨n, d, ao, cp, m, l', hn, rfl, rfl, rfl, rfl, hln, hacc, hW⟩ := hrel
    have HA := Lib.hid hacc
    clear hacc
    have hlw : w.heap.size < wr.heap.size := World.block_lt_of_cell? wr _ hW.b0
    obtain ⟨_, _, hcp1, hcp2⟩ := hW.row.form
    have hdn : d.toNat ≤ 1 := by cases d <;> simp
    by_cases hlt : n < l.length
    · obtain ⟨q, hq⟩ : ∃ q, l[n]? = some q := ⟨_, List.getElem?_eq_getElem hlt⟩
      obtain ⟨b, o, rfl, c0, c1⟩ := (HH.out.below hW.b).2.2.1 n q hq
      obtain ⟨x0, x1⟩ := q
      dsimp only at c0 c1
      have HQ0 : Hid (l.getD n (0, 0) = (x0, x1)) := Lib.hid (by simp [List.getD, hq])
      clear hq
      have a0 := cell_alloc hW.b0 (.cells #[.int .i64 x0, .int .i64 x1] 42)
      have a1 := cell_alloc hW.b1 (.cells #[.int .i64 x0, .int .i64 x1] 42)
      have e0 : (wr.alloc (.cells #[.int .i64 x0, .int .i64 x1] 42)).cell? ⟨wr.heap.size, 0, none⟩ = some (.int .i64 x0) := by simp
      have e1 : (wr.alloc (.cells #[.int .i64 x0, .int .i64 x1] 42)).cell? ⟨wr.heap.size, 1, none⟩ = some (.int .i64 x1) := by simp
      have HP := Lib.hid (hW.row.more (.cells #[.int .i64 x0, .int .i64 x1] 42))
      have hlen : l'.length ≤ 2000001 := by omega
      have HS : Hid (∀ j, (j ≤ w.heap.size ∨ j = wr.heap.size) → j < (wr.alloc (.cells #[.int .i64 x0, .int .i64 x1] 42)).heap.size) := Lib.hid (fun j hj => by simp; omega)
      have HL := Lib.hid (hW.past (.cells #[.int .i64 x0, .int .i64 x1] 42))
      clear hW
      cases d
      · simp only [Bool.toNat_false] at hdn
        by_cases hge : k ≤ x0
        · have HG := Lib.hid hge
          by_cases hne : x0 = k
          · have hne' : (x0 != k) = false := by simp [hne]
            have HN := Lib.hid hne'
            clear hne
            go_wp2_with (first | (at_builtin; refine wpList_push rfl (.tmp 24) (.tmp 26) rfl (fun j => j ≤ w.heap.size ∨ j = wr.heap.size) _ l' k v rfl HP.out HS.out _ rfl (by simp) (by omega) ?_; intro ao1 cp1 w1 hm1 hc1 hR1 hk1 hO1; have HQ := Lib.hid (HL.out.push hR1 hk1 hO1); have HR1 := Lib.hid hR1; have y0 := hk1 ⟨wr.heap.size, 0, none⟩ _ (.inr rfl) e0; have y1 := hk1 ⟨wr.heap.size, 1, none⟩ _ (.inr rfl) e1; have a0 := HQ.out.b0; have a1 := HQ.out.b1; have hs1 := hO1.size; clear hR1 hk1 hO1; unfold maxLen at hm1))
            go_roundw
            case rel => exact ⟨n + 1, true, _, _, _, (l' ++ [(k, v)]), by omega, by go_num, rfl, rfl, by simp, by simp at hln ⊢; omega, (wAcc_next HA.out HQ0.out).trans (wS_ge_eq HG.out HN.out), HQ.out⟩
            case measure => simp [intOf]; omega
          · have hne' : (x0 != k) = true := by simp [hne]
            have HN := Lib.hid hne'
            clear hne
            go_wp2_with (first | (at_builtin; refine wpList_push rfl (.tmp 24) (.tmp 26) rfl (fun j => j ≤ w.heap.size ∨ j = wr.heap.size) _ l' k v rfl HP.out HS.out _ rfl (by simp) (by omega) ?_; intro ao1 cp1 w1 hm1 hc1 hR1 hk1 hO1; have HQ := Lib.hid (HL.out.push hR1 hk1 hO1); have HR1 := Lib.hid hR1; have y0 := hk1 ⟨wr.heap.size, 0, none⟩ _ (.inr rfl) e0; have y1 := hk1 ⟨wr.heap.size, 1, none⟩ _ (.inr rfl) e1; have a0 := HQ.out.b0; have a1 := HQ.out.b1; have hs1 := hO1.size; clear hR1 hk1 hO1; unfold maxLen at hm1) | (at_builtin; refine wpList_push rfl (.tmp 33) (.tmp 35) rfl (fun j => j ≤ w.heap.size ∨ j = wr.heap.size) _ (l' ++ [(k, v)]) x0 x1 rfl HR1.out (fun j hj => by have := HS.out j hj; omega) _ rfl (by simp) (by simp; omega) ?_; intro ao2 cp2 w2 hm2 hc2 hR2 hk2 hO2; have HF := Lib.hid (HQ.out.push hR2 hk2 hO2); clear hR2 hk2 hO2; unfold maxLen at hm2))
            go_roundw
            case rel => exact ⟨n + 1, true, _, _, _, ((l' ++ [(k, v)]) ++ [(x0, x1)]), by omega, by go_num, rfl, rfl, by simp, by simp at hln ⊢; omega, (wAcc_next HA.out HQ0.out).trans (wS_ge_ne HG.out HN.out), by have := HF.out; rw [List.length_append] at this; exact this⟩
            case measure => simp [intOf]; omega
        · have hge' : x0 < k := by omega
          have HG := Lib.hid hge'
          have hne' : (x0 != k) = true := by simp; omega
          clear hge
          go_wp2_with (first | (at_builtin; refine wpList_push rfl (.tmp 33) (.tmp 35) rfl (fun j => j ≤ w.heap.size ∨ j = wr.heap.size) _ l' x0 x1 rfl HP.out HS.out _ rfl (by simp) (by omega) ?_; intro ao2 cp2 w2 hm2 hc2 hR2 hk2 hO2; have HF := Lib.hid (HL.out.push hR2 hk2 hO2); clear hR2 hk2 hO2; unfold maxLen at hm2))
          go_roundw
          case rel => exact ⟨n + 1, false, _, _, _, (l' ++ [(x0, x1)]), by omega, by go_num, rfl, rfl, by simp, by simp at hln ⊢; omega, (wAcc_next HA.out HQ0.out).trans (wS_lt HG.out), HF.out⟩
          case measure => simp [intOf]; omega
      · by_cases hne : x0 = k
        · have hne' : (x0 != k) = false := by simp [hne]
          have HN := Lib.hid hne'
          clear hne
          go_wp2_with (fail)
          go_roundw
          case rel => exact ⟨n + 1, true, _, _, _, l', by omega, by go_num, rfl, rfl, rfl, by simp at hln ⊢; omega, (wAcc_next HA.out HQ0.out).trans (wS_t_eq HN.out), HL.out⟩
          case measure => simp [intOf]; omega
        · have hne' : (x0 != k) = true := by simp [hne]
          have HN := Lib.hid hne'
          clear hne
          go_wp2_with (first | (at_builtin; refine wpList_push rfl (.tmp 33) (.tmp 35) rfl (fun j => j ≤ w.heap.size ∨ j = wr.heap.size) _ l' x0 x1 rfl HP.out HS.out _ rfl (by simp) (by omega) ?_; intro ao2 cp2 w2 hm2 hc2 hR2 hk2 hO2; have HF := Lib.hid (HL.out.push hR2 hk2 hO2); clear hR2 hk2 hO2; unfold maxLen at hm2))
          go_roundw
          case rel => exact ⟨n + 1, true, _, _, _, (l' ++ [(x0, x1)]), by omega, by go_num, rfl, rfl, by simp, by simp at hln ⊢; omega, (wAcc_next HA.out HQ0.out).trans (wS_t_ne HN.out), HF.out⟩
          case measure => simp [intOf]; omega
    · obtain rfl : n = l.length := by omega
      have HL := Lib.hid hW
      have b0 := hW.b0
      have b1 := hW.b1
      have HS : Hid (∀ j, (j ≤ w.heap.size ∨ j = w.heap.size) → j < wr.heap.size) := Lib.hid (fun j hj => by omega)
      have HP : Hid (PRow wr (fun j => j ≤ w.heap.size ∨ j = w.heap.size) (.slice ao l'.length cp) l') := Lib.hid (hW.row.sub (fun j _ hj => by omega))
      clear hW
      cases d
      · go_wp2_with (at_builtin; refine wpList_push rfl (.tmp 40) (.tmp 42) rfl (fun j => j ≤ w.heap.size ∨ j = w.heap.size) _ l' k v rfl HP.out HS.out _ rfl (by simp) (by omega) ?_; intro ao1 cp1 w1 hm1 hc1 hR1 hk1 hO1; have HQ := Lib.hid (HL.out.push hR1 hk1 hO1); clear hR1 hk1 hO1; unfold maxLen at hm1)
        go_ret
        have eL : withL l k v = l' ++ [(k, v)] := by unfold withL; rw [HA.out]; rfl
        rw [eL]
        exact ⟨⟨ao1, cp1, by simp, by have h9 := HQ.out.row.sub (S' := fun j => j < w.heap.size) (fun j _ hj => Nat.le_of_lt hj); simpa using h9, HQ.out.b⟩, by simp at hln ⊢; omega⟩
      · go_wp2_with (fail)
        go_ret
        have eL : withL l k v = l' := by unfold withL; rw [HA.out]; rfl
        rw [eL]
        exact ⟨⟨_, _, rfl, HL.out.row.sub (fun j _ hj => Nat.le_of_lt hj), HL.out.b⟩, by simp at hln; omega⟩

set_option maxRecDepth 100000 in
set_option maxHeartbeats 6400000 in
theorem samep_any (a a2 : Option Addr) (cap cap2 : Nat) (l m : List Pr) (w : World) (h : Prs w a cap l) (h2 : Prs w a2 cap2 m) (B : Bool) (hB : decide (l = m) = B) :
    Calls Try.prog 20 #[.slice a l.length cap, .slice a2 m.length cap2] w fun e w' => e = .returned (.bool B) ∧ Below w.heap.size w w' := by
  by_cases hlen : l.length = m.length
  · have HB := Lib.hid hB
    have HH := Lib.hid h
    have HH2 := Lib.hid h2
    have hc1 := h.1
    have hc2 := h.2.1
    have hc3 := h2.1
    have hc4 := h2.2.1
    have HLEN := Lib.hid hlen
    have hlen' : ((l.length : Int) == (m.length : Int)) = true := by simp [hlen]
    rw [← hlen] at hc3
    rw [← hlen]
    clear h h2 hB hlen
    unfold maxLen at hc2 hc4
    go_enter Try.func20, Try.ntmps20
    go_wp2_with (fail)
    go_loopw [13] (fun i wr => ∃ n : Nat, n ≤ l.length ∧ i = .int .i64 n ∧ (∀ j, j < n → l[j]? = m[j]?) ∧ Below w.heap.size w wr) (fun i _ => l.length - (intOf i).toNat)
    case atStart => exact ⟨0, Nat.zero_le _, rfl, fun j hj => absurd hj (Nat.not_lt_zero j), Below.refl _ _⟩
    case round =>
      obtain ⟨n, hn, rfl, hall, hb⟩ := hrel
      have HALL := Lib.hid hall
      clear hall
      by_cases hlt : n < l.length
      · obtain ⟨q, hq⟩ : ∃ q, l[n]? = some q := ⟨_, List.getElem?_eq_getElem hlt⟩
        obtain ⟨q', hq'⟩ : ∃ q, m[n]? = some q := ⟨_, List.getElem?_eq_getElem (by have := HLEN.out; omega)⟩
        obtain ⟨b, o, rfl, c0, c1⟩ := (HH.out.below hb).2.2.1 n q hq
        obtain ⟨b', o', rfl, d0, d1⟩ := (HH2.out.below hb).2.2.1 n q' hq'
        have HQ := Lib.hid (And.intro hq hq')
        obtain ⟨x0, x1⟩ := q
        obtain ⟨y0, y1⟩ := q'
        dsimp only at c0 c1 d0 d1
        clear hq hq'
        have hn0 : (0 : Int) ≤ (n : Int) := by omega
        have hnl : (n : Int) < (l.length : Int) := by omega
        by_cases he0 : x0 = y0
        · by_cases he1 : x1 = y1
          · subst he0
            subst he1
            go_wp2_with (fail)
            go_quiet (fail)
            go_wp2_with (fail)
            go_roundw
            case rel => exact ⟨n + 1, by omega, by go_num, fun j hj => by
              rcases Nat.lt_succ_iff_lt_or_eq.1 hj with hj | rfl
              · exact HALL.out j hj
              · rw [HQ.out.1, HQ.out.2], below_drewN hb _⟩
            case measure => simp [intOf]; omega
          · subst he0
            have hne : B = false := by
              rw [← HB.out]
              refine decide_eq_false (fun e => he1 ?_)
              subst e
              have := HQ.out.1.symm.trans HQ.out.2
              simp at this
              exact this
            have he1' : (x1 == y1) = false := by simp [he1]
            go_wp2_with (fail)
            go_quiet (fail)
            go_wp2_with (fail)
            go_ret
            exact ⟨by rw [hne]; rfl, below_drewN hb _⟩
        · have hne : B = false := by
            rw [← HB.out]
            refine decide_eq_false (fun e => he0 ?_)
            subst e
            have := HQ.out.1.symm.trans HQ.out.2
            simp at this
            exact this.1
          have he0' : (x0 == y0) = false := by simp [he0]
          go_wp2_with (fail)
          go_quiet (fail)
          go_wp2_with (fail)
          go_ret
          exact ⟨by rw [hne]; rfl, below_drewN hb _⟩
      · obtain rfl : n = l.length := by omega
        have heq : l = m := by
          apply List.ext_getElem?
          intro j
          by_cases hj : j < l.length
          · exact HALL.out j hj
          · rw [List.getElem?_eq_none (by omega), List.getElem?_eq_none (by have := HLEN.out; omega)]
        have hB : B = true := by rw [← HB.out]; exact decide_eq_true heq
        clear heq
        go_wp2_with (fail)
        go_ret
        exact ⟨by rw [hB]; rfl, hb⟩
  · have hne : B = false := by
      rw [← hB]
      exact decide_eq_false (fun e => hlen (by rw [e]))
    have hlen' : ((l.length : Int) == (m.length : Int)) = false := by simp; omega
    subst hne
    have hc2 := h.2.1
    have hc4 := h2.2.1
    clear h h2 hB hlen
    go_enter Try.func20, Try.ntmps20
    go_wp2_with (fail)
    go_ret
    exact ⟨rfl, Below.refl _ _⟩

end Go.Proofs.Ytpdliokpbnpppaa


namespace Go.Proofs.Ytpdliokpbnpppaa
set_option linter.all false

theorem AT.lst_len (T : AT) : T.lst.length = T.nl := by
  induction T with
  | lf p st => rfl
  | rt k l r ihl ihr => simp only [AT.lst, AT.nl, List.length_append, ihl, ihr]
def lsS (N : List Nd) (i j : Nat) : List (List Pr × Int) :=
  if j = i then [((nd N j).p.take ((nd N j).p.length / 2), 0), ((nd N j).p.drop ((nd N j).p.length / 2), 0)] else [pst N j]
theorem splA_lst (N : List Nd) (i : Nat) : ∀ s : Sh, (splA N i s).lst = s.lvs.flatMap (lsS N i) := by
  intro s
  induction s with
  | lf j =>
    simp only [splA, Sh.lvs, List.flatMap_cons, List.flatMap_nil, List.append_nil, lsS]
    split <;> rfl
  | rt j l r ihl ihr => simp only [splA, AT.lst, Sh.lvs, List.flatMap_append, ihl, ihr]
/-- A split's stats: nought, or those that were. -/
theorem splA_st {N : List Nd} {i : Nat} {s : Sh} {e : List Pr × Int} (h : e ∈ (splA N i s).lst) : e.2 = 0 ∨ ∃ j ∈ s.lvs, j ≠ i ∧ e = pst N j := by
  rw [splA_lst, List.mem_flatMap] at h
  obtain ⟨j, hj, he⟩ := h
  unfold lsS at he
  split at he
  · simp only [List.mem_cons, List.not_mem_nil, or_false] at he
    rcases he with rfl | rfl <;> exact .inl rfl
  · next hne =>
    simp only [List.mem_cons, List.not_mem_nil, or_false] at he
    exact .inr ⟨j, hj, hne, he⟩
end Go.Proofs.Ytpdliokpbnpppaa


namespace Go.Proofs.Ytpdliokpbnpppaa
open Go.RowKit
set_option linter.all false

/-- No leaf is joined where no stat is below Low: there are no fewer leaves then, and no stat below nought. -/
theorem doT_more {N : List Nd} {s : Sh} (hT : Tr N s 0) (h0 : ∀ i ∈ s.lvs, 0 ≤ (nd N i).s) {h l cc u m c k hi v : Int} (hl : l ≤ 0) (hu : u ≤ 0) (ho : okOp c) (h3 : c ≤ 3) {Q : List Nd} (hD : DoT N s h l cc u m c k hi v Q) {s' : Sh} (hs' : Tr Q s' 0) :
    s.lvs.length ≤ s'.lvs.length ∧ (∀ i ∈ s'.lvs, 0 ≤ (nd Q i).s) ∧ (h < nx cc u m (nd N (dn N k s).i).s 2 → 2 ≤ (doP (nd N (dn N k s).i).p c k v).length → N.length + 2 ≤ 2000 → s.lvs.length < s'.lvs.length) ∧
    (nx cc u m (nd N (dn N k s).i).s 2 ≤ h → s'.lvs.map (pst Q) = s.lvs.map (pst (N.set (dn N k s).i ⟨false, 0, 0, 0, doP (nd N (dn N k s).i).p c k v, nx cc u m (nd N (dn N k s).i).s 2⟩))) := by
  rcases hD with ⟨_, d, hB⟩ | ⟨h1, _⟩ | ⟨h1, _⟩
  · have hdm := dn_lvs N k s
    have hlt := hT.hg.lt _ (lvs_pre _ _ hdm)
    have hst : 0 ≤ nx cc u m (nd N (dn N k s).i).s 2 := by
      have := h0 _ hdm
      unfold nx chg hm
      simp only [show ¬ ((2 : Int) = 1) by decide, if_false, if_true]
      omega
    have hst2 : nx cc u m (nd N (dn N k s).i).s 2 ≤ 1000000 := (nx_bd _ _ _ _ _).2
    obtain ⟨g1, _⟩ := tr_update hT (k := k) (v := v) (st := nx cc u m (nd N (dn N k s).i).s 2) ho (nx_bd _ _ _ _ _).1 (nx_bd _ _ _ _ _).2
    obtain ⟨s2, a, b, e, hw⟩ := bnd_is ⟨g1, rfl, hdm⟩ hB
    obtain rfl := a.uniq hs'
    have e1 : nd (N.set (dn N k s).i ⟨false, 0, 0, 0, doP (nd N (dn N k s).i).p c k v, nx cc u m (nd N (dn N k s).i).s 2⟩) (dn N k s).i = ⟨false, 0, 0, 0, doP (nd N (dn N k s).i).p c k v, nx cc u m (nd N (dn N k s).i).s 2⟩ := nd_set hlt
    have h0' : ∀ i ∈ s.lvs, 0 ≤ (nd (N.set (dn N k s).i ⟨false, 0, 0, 0, doP (nd N (dn N k s).i).p c k v, nx cc u m (nd N (dn N k s).i).s 2⟩) i).s := by
      intro i hi'
      by_cases ei : i = (dn N k s).i
      · rw [ei, e1]; exact hst
      · rw [nd_set_ne (fun e => ei e.symm)]; exact h0 i hi'
    rw [e1, List.length_set] at hw
    dsimp only at hw
    have hlen : ∀ {L : List (List Pr × Int)}, s2.lvs.map (pst Q) = L → s2.lvs.length = L.length := fun e => by rw [← e, List.length_map]
    have hst' : ∀ {L : List (List Pr × Int)}, s2.lvs.map (pst Q) = L → (∀ e ∈ L, 0 ≤ e.2) → ∀ i ∈ s2.lvs, 0 ≤ (nd Q i).s := fun e hL i hi' => hL (pst Q i) (e ▸ List.mem_map_of_mem hi')
    have hd2 : dc h l (nx cc u m (nd N (dn N k s).i).s 2) ≠ 2 := by unfold dc hm; split; decide; rw [if_neg (by omega)]; decide
    rcases hw with ⟨w1, w2, w3⟩ | ⟨w1, w2, w3⟩ | ⟨_, _, _, w, _⟩
    · refine ⟨Nat.le_of_eq (by rw [hlen w1, List.length_map]), hst' w1 (fun e he => ?_), fun k1 k2 k3 => ?_, fun _ => w1⟩
      · obtain ⟨i, hi', rfl⟩ := List.mem_map.1 he
        exact h0' i hi'
      · have : dc h l (nx cc u m (nd N (dn N k s).i).s 2) = 1 := by unfold dc hm; rw [if_pos (by omega)]
        rw [this] at w3
        rcases w3 with w | ⟨_, w | w⟩ | ⟨w, _⟩
        · omega
        · omega
        · omega
        · omega
    · have hn : (splA (N.set (dn N k s).i ⟨false, 0, 0, 0, doP (nd N (dn N k s).i).p c k v, nx cc u m (nd N (dn N k s).i).s 2⟩) (dn N k s).i s).lst.length = s.lvs.length + 1 := by
        rw [AT.lst_len, splA_nl (lvs_nodup hT.nd) hdm]
      refine ⟨by rw [hlen w1, hn]; omega, hst' w1 (fun e he => ?_), fun _ _ _ => by rw [hlen w1, hn]; omega, fun k1 => ?_⟩
      · rcases splA_st he with e0 | ⟨j, hj, _, rfl⟩
        · rw [e0]; decide
        · exact h0' j hj
      · exfalso
        unfold dc hm at w2
        rw [if_neg (by omega)] at w2
        split at w2 <;> omega
    · exact absurd w hd2
  · omega
  · omega
end Go.Proofs.Ytpdliokpbnpppaa


namespace Go.Proofs.Ytpdliokpbnpppaa
open Go.RowKit
set_option linter.all false

/-! ### Puts under Eager -/
structure Eg (ks : List Int) (N : List Nd) (s : Sh) : Prop where
  t : Tr N s 0
  st : ∀ i ∈ s.lvs, 0 ≤ (nd N i).s
  n : N.length ≤ 1 + 2 * ks.length
  e0 : ks = [] → s.lvs.map (pst N) = [([], 0)]
  e1 : ∀ k, ks = [k] → ∃ v, s.lvs.map (pst N) = [([(k, v)], 1)]
  e2 : ks.Nodup → 2 ≤ ks.length → 2 ≤ s.lvs.length
theorem Eg.zero : Eg [] [⟨false, 0, 0, 0, [], 0⟩] (.lf 0) := by
  refine ⟨⟨by simp, ⟨rfl, _, rfl, rfl, rfl, rfl, rfl, by simp, by simp, Srt.nil, by simp⟩, by simp [Sh.pre], by simp [Sh.pre]⟩, by simp [Sh.lvs, nd], by simp, fun _ => rfl, fun k h => by simp at h, fun _ h => by simp at h⟩
theorem withL_one {k0 v0 k v : Int} (h : k ≠ k0) : 2 ≤ (withL [(k0, v0)] k v).length := by
  have hs : Srt [(k0, v0)] := by simp [Srt]
  have h1 : ((k, v) : Pr) ∈ withL [(k0, v0)] k v := (withL_in hs).2 (.inl rfl)
  have h2 : ((k0, v0) : Pr) ∈ withL [(k0, v0)] k v := (withL_in hs).2 (.inr ⟨by simp, fun e => h e.symm⟩)
  match hl : withL [(k0, v0)] k v with
  | [] => rw [hl] at h1; simp at h1
  | [z] =>
    rw [hl] at h1 h2
    simp at h1 h2
    rw [← h1] at h2
    exact absurd (congrArg Prod.fst h2).symm h
  | _ :: _ :: _ => simp
theorem one_of {α β : Type} {f : α → β} {l : List α} {x : β} (h : l.map f = [x]) : ∃ a, l = [a] ∧ f a = x := by
  match l, h with
  | [a], h => exact ⟨a, rfl, by simpa using h⟩
theorem Eg.step {ks : List Int} {N : List Nd} {s : Sh} (hE : Eg ks N s) (hk : ks.length ≤ 900) {l cc m k hi v : Int} (hl : l ≤ 0) {Q : List Nd} (hD : DoS N s 1 l cc (-1) m ⟨1, k, hi, v⟩ Q) {s' : Sh} (hs' : Tr Q s' 0) : Eg (ks ++ [k]) Q s' := by
  have ho : okOp (1 : Int) := ⟨by decide, by decide⟩
  obtain ⟨g1, g2, g3, g4⟩ := lay_tr hE.t
  obtain ⟨s2, a, _, hn⟩ := doS_is hE.t hD
  obtain rfl := a.uniq hs'
  rcases hD with ⟨_, hD⟩ | ⟨hno, _⟩
  · have h0 : ∀ i ∈ ((ab N s).sh 0).lvs, 0 ≤ (nd (lay N s 0) i).s := fun i hi' => by
      have hm : pst (lay N s 0) i ∈ s.lvs.map (pst N) := by rw [← g4]; exact List.mem_map_of_mem hi'
      obtain ⟨j, hj, e⟩ := List.mem_map.1 hm
      have := congrArg Prod.snd e
      simp only [pst] at this
      rw [← this]; exact hE.st j hj
    have hll : ((ab N s).sh 0).lvs.length = s.lvs.length := by rw [AT.sh_nl, ab_nl]
    obtain ⟨m1, m2, m3, m4⟩ := doT_more g1 h0 hl (by decide) ho (by decide) hD a
    have hdm := dn_lvs (lay N s 0) k ((ab N s).sh 0)
    have hdl := g1.hg.lt _ (lvs_pre _ _ hdm)
    have only1 : ∀ {x : List Pr × Int}, s.lvs.map (pst N) = [x] → ((ab N s).sh 0).lvs = [(dn (lay N s 0) k ((ab N s).sh 0)).i] ∧ pst (lay N s 0) (dn (lay N s 0) k ((ab N s).sh 0)).i = x := fun e => by
      obtain ⟨j, e1, e2⟩ := one_of (g4.trans e)
      have hj := hdm
      rw [e1] at hj
      simp at hj
      rw [e1, hj]
      exact ⟨rfl, e2⟩
    have hn2 : N.length ≤ 1 + 2 * ks.length := hE.n
    refine ⟨a, m2, by simp; omega, fun e => by simp at e, fun k' e => ?_, fun hnd hlen => ?_⟩
    · have hks : ks = [] := by
        match ks, e with
        | [], _ => rfl
        | [_], e => simp at e
        | _ :: _ :: _, e => simp at e
      subst hks
      simp at e
      subst e
      obtain ⟨e1, e2⟩ := only1 (hE.e0 rfl)
      have ep : (nd (lay N s 0) (dn (lay N s 0) k ((ab N s).sh 0)).i).p = [] := congrArg Prod.fst e2
      have es : (nd (lay N s 0) (dn (lay N s 0) k ((ab N s).sh 0)).i).s = 0 := congrArg Prod.snd e2
      have hx : nx cc (-1) m 0 2 = 1 := by unfold nx chg hm; simp; decide
      rw [ep, es, hx] at m4
      refine ⟨v, ?_⟩
      rw [m4 (by decide), e1]
      simp only [List.map_cons, List.map_nil, pst]
      rw [nd_set hdl, doP_put Srt.nil ho k v rfl]
      rfl
    · obtain ⟨n1, n2, n3⟩ := List.nodup_append.1 hnd
      simp at hlen
      rcases Nat.lt_or_ge ks.length 2 with h2 | h2
      · obtain ⟨k0, hks⟩ : ∃ k0, ks = [k0] := by
          match ks, h2, hlen with
          | [], _, h => simp at h
          | [k0], _, _ => exact ⟨k0, rfl⟩
          | _ :: _ :: _, h, _ => simp at h; omega
        have hne : k ≠ k0 := fun e => n3 k0 (by rw [hks]; simp) k (by simp) e.symm
        obtain ⟨v0, e0⟩ := hE.e1 k0 hks
        obtain ⟨e1, e2⟩ := only1 e0
        have ep : (nd (lay N s 0) (dn (lay N s 0) k ((ab N s).sh 0)).i).p = [(k0, v0)] := congrArg Prod.fst e2
        have es : (nd (lay N s 0) (dn (lay N s 0) k ((ab N s).sh 0)).i).s = 1 := congrArg Prod.snd e2
        have hx : nx cc (-1) m 1 2 = 2 := by unfold nx chg hm; simp; decide
        rw [ep, es, hx] at m3
        have hp := lvs_pos ((ab N s).sh 0)
        have := m3 (by decide) (by rw [doP_put (by simp [Srt]) ho k v rfl]; exact withL_one hne) (by omega)
        omega
      · have := hE.e2 n1 h2
        omega
  · exact absurd ho hno

end Go.Proofs.Ytpdliokpbnpppaa


namespace Go.Proofs.Ytpdliokpbnpppaa
open Go.RowKit Go.Sort
set_option linter.all false
set_option maxRecDepth 20000

theorem doP_s {L : List Pr} (hs : Srt L) (c k v : Int) : Srt (doP L c k v) := by
  by_cases h : okOp c
  · exact doP_srt hs h k v
  · rw [doP_bad (fun x => h x.2)]; exact hs
theorem runP_s : ∀ (L : List Pr) (z : List OpD), Srt L → Srt (runP L z)
  | _, [], h => h
  | L, o :: z, h => runP_s _ z (doP_s h _ _ _)
attribute [local go_sem] mkA_run

end Go.Proofs.Ytpdliokpbnpppaa


namespace Go.Proofs.Ytpdliokpbnpppaa
open Go.RowKit
set_option linter.all false

theorem oneN_run {zs : List OpD} {f : Nat → List Nd} {h l cc u m : Int} (hc : Chn h l cc u m zs f) (f0 : f 0 = oneN []) : ∃ s, Tr (f zs.length) s 0 ∧ allP (f zs.length) s.lvs = runP [] zs ∧ (f zs.length).length ≤ 1 + 2 * zs.length := by
  have hT : Tr (f 0) (.lf 0) 0 := by rw [f0]; exact aw_t0
  obtain ⟨s', h1, _, h3, h4⟩ := chn_is hc hT (by rw [f0]; rfl) zs.length (Nat.le_refl _)
  rw [List.take_of_length_le (Nat.le_refl _)] at h3
  have e : allP (f 0) (Sh.lf 0).lvs = [] := by rw [f0]; simp [allP, Sh.lvs, oneN, nd]
  rw [e] at h3
  refine ⟨s', h1, h3, ?_⟩
  rw [f0] at h4
  exact h4
end Go.Proofs.Ytpdliokpbnpppaa

