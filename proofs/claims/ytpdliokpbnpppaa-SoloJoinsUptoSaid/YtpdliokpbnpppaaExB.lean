/- What else is wanted of the ground. No condition: definitions and lemmas. -/
import Derived.Test.YtpdliokpbnpppaaAdR
import Derived.Test.YtpdliokpbnpppaaAeA
import Derived.Test.YtpdliokpbnpppaaAeC
import Derived.Test.YtpdliokpbnpppaaAeD
import Derived.Test.YtpdliokpbnpppaaAeE
import Derived.Test.YtpdliokpbnpppaaAeG
import Derived.Test.YtpdliokpbnpppaaAeM
import Derived.Test.YtpdliokpbnpppaaBlZ
import Derived.Test.YtpdliokpbnpppaaLfA
import Derived.Test.YtpdliokpbnpppaaLfB
import Derived.Test.YtpdliokpbnpppaaLfC
import Derived.Test.YtpdliokpbnpppaaLfE
import Derived.Test.YtpdliokpbnpppaaLfF
import Derived.Test.YtpdliokpbnpppaaLfG
import Derived.Test.YtpdliokpbnpppaaLfM
import Derived.Test.YtpdliokpbnpppaaLfO
import Derived.Test.YtpdliokpbnpppaaMdA
import Derived.Test.YtpdliokpbnpppaaMdE
import Derived.Test.YtpdliokpbnpppaaMdF
import Derived.Test.YtpdliokpbnpppaaMdM
import Derived.Test.YtpdliokpbnpppaaMdN
import Derived.Test.YtpdliokpbnpppaaNuG
import Derived.Test.YtpdliokpbnpppaaPoG
import Derived.Test.YtpdliokpbnpppaaPrG
import Derived.Test.YtpdliokpbnpppaaRfG
import Derived.Test.YtpdliokpbnpppaaRwG
import Derived.Test.YtpdliokpbnpppaaSlB
import Derived.Test.YtpdliokpbnpppaaSlM
import Derived.Test.YtpdliokpbnpppaaSlP
import Derived.Test.YtpdliokpbnpppaaSlT
import Derived.Test.YtpdliokpbnpppaaSlU
import Derived.Test.YtpdliokpbnpppaaStH
import Derived.Test.YtpdliokpbnpppaaTrA
import Derived.Test.YtpdliokpbnpppaaTrD
import Derived.Test.YtpdliokpbnpppaaTrE
import Derived.Test.YtpdliokpbnpppaaTrF
import Derived.Test.YtpdliokpbnpppaaTrM
import Derived.Test.YtpdliokpbnpppaaTrO
import Derived.Test.YtpdliokpbnpppaaTrR
import Derived.Test.YtpdliokpbnpppaaTrS
import Derived.Test.YtpdliokpbnpppaaTrU
import Derived.Test.YtpdliokpbnpppaaTsA
import Derived.Test.YtpdliokpbnpppaaTsC
import Derived.Test.YtpdliokpbnpppaaTsF
import Derived.Test.YtpdliokpbnpppaaTsI
import Derived.Below
import Derived.Laws.OwnMore
import Derived.Deep.RegionLaw
import Derived.Deep.Draws
import Derived.Lib.Hide
import Derived.LoopTactic
import Derived.WalkKit
import Derived.ProofKit
import Derived.Deep.QuietTactic
import Derived.BigQuiet
import Derived.Calls
import Derived.IntWalk
import Derived.RegionTactic
import Derived.ChangeAlike
import Derived.Deep.Slices
import Derived.Deep.Fields
import Derived.ChangeArms
import Derived.Lib.AppendZeros
import Derived.Lib.AppendZerosOnto
import Derived.SizedLaws
import Derived.Deep.RegionHeld3
import Derived.Deep.CutRange
import Derived.Deep.CutBlock
import Derived.Lib.SliceRun
import Derived.Deep.LoopGhost
import Derived.OwnWalk
import Derived.StillTailTactics
import Derived.OpenShut
import Derived.ChangeOld
import Derived.BigRegion
import Derived.Shelf.SlSortCmp.QuietGrown
namespace Go.Proofs.Ytpdliokpbnpppaa
open Go.RowKit Go.Deep Go.ChangeShapes Go.WideShapes
set_option linter.all false
set_option maxRecDepth 20000

section
variable {H : Type} {enc : TypeId × Value → H} {w : World} {fuel : Nat} {x : DataW H × List MemPlace}

end

theorem cellsP_snoc (l : List Pr) (q : Pr) : cellsP (l ++ [q]) = cellsP l ++ [.int .i64 q.1, .int .i64 q.2] := by
  induction l with
  | nil => rfl
  | cons x l ih => simp [cellsP, ih]
/-- A pair is appended onto a row of one's own. -/
theorem wpList_push {w : World} {ops : Array Oper} {rest : List Oper} {o : Oper} {a : Act} {Q : Exit → Act → World → Prop} (hgd : o.guard = none) (s x : Operand)
    (ho : o.op = .call { callee := .builtin .append, args := #[s, x], argTypes := #[37, 37] })
    (S : Nat → Prop) (v : Value) (l : List Pr) (k u : Int) (hs : a.eval s = v) (h : PRow w S v l) (hS : ∀ k, S k → k < w.heap.size)
    (g : Nat) (hx : a.eval x = .slice (some ⟨g, 0, none⟩) 1 1) (hg : g = w.heap.size) (hl : l.length ≤ 100000000000)
    (H : ∀ ao cap w', cap ≤ maxLen → l.length + 1 ≤ cap → PRow w' S (.slice ao (l.length + 1) cap) (l ++ [(k, u)]) → (∀ q c, S q.block → w.cell? q = some c → w'.cell? q = some c) → Only (fun k => ¬ S k) w w' →
      wpList Try.prog ops Q rest (a.put o.dst (.slice ao (l.length + 1) cap)) w') :
    wpList Try.prog ops Q (o :: rest) a (w.alloc (.cells #[.int .i64 k, .int .i64 u] 42)) := by
  subst hg
  have hA : Below w.heap.size w (w.alloc (.cells #[.int .i64 k, .int .i64 u] 42)) := (Below.refl _ _).alloc (Nat.le_refl _) _
  have h' := h.below hA
  obtain ⟨i, hi, hz, hs1, hs2⟩ := info_parts infoPair
  refine wpList_own_append hgd s x 37 ho 42 i _ 2 16 Try.underlying37 hi hz hs1 hs2 rfl (by decide) v l.length (cellsP l) hs h'.row _ 1 [.int .i64 k, .int .i64 u] hx
    (.inr ⟨_, _, rfl, cells_new _ #[.int .i64 k, .int .i64 u] _⟩) rfl (by intro y hy; simp at hy; rcases hy with rfl | rfl <;> rfl) (by unfold maxLen; omega) (by omega) ?_
  intro v' w' hown hgr hk
  obtain ⟨ao, cap, rfl, h1, h2⟩ := row_form hown
  have hav : ∀ k, (Value.slice ao (l.length + 1) cap).ownBlock = some k → ¬ S k := by
    intro j hj hs
    rcases hk j hj with e | e
    · exact h.av j e hs
    · have := hS j hs
      have := hA.size
      omega
  refine H ao cap w' h2 h1 ⟨by simpa [cellsP_snoc] using hown, hav⟩ (fun q c hq hc => ?_) ?_
  · have hne : some q.block ≠ v.ownBlock := fun e => h.av q.block e.symm hq
    exact hgr.cell (((hA.cell (World.block_lt_of_cell? w q hc)).trans hc)) hne
  · exact ((Only.ofBelow hA).mono (fun i hi hlt => absurd hlt (by omega))).grown hgr (fun j hj _ hs => h.av j hj hs)

section
variable {w : World} {ops : Array Oper} {o : Oper} {a : Act} {K : Act → World → Prop} {Q : Exit → Act → World → Prop} {E : Prop}
end

end Go.Proofs.Ytpdliokpbnpppaa


namespace Go.Proofs.Ytpdliokpbnpppaa
open Go.RowKit
set_option linter.all false

/-- What With tells. -/
def WithIs (w : World) (L : List Pr) (e : Ending) (w' : World) : Prop :=
  ∃ ao cp, e = .returned (.slice ao L.length cp) ∧ PRow w' (fun j => j < w.heap.size) (.slice ao L.length cp) L ∧ Below w.heap.size w w'
theorem cutL_take {l : List Pr} {n : Nat} {q : Pr} (k : Int) (hq : l[n]? = some q) : cutL (l.take (n + 1)) k = cutL (l.take n) k ++ cutL [q] k := by
  have e : l.take (n + 1) = l.take n ++ [q] := by rw [List.take_succ, hq]; rfl
  rw [e]; unfold cutL; rw [List.filter_append]
theorem cutL_one {x0 x1 k : Int} (h : (x0 != k) = true) : cutL [(x0, x1)] k = [(x0, x1)] := by unfold cutL; simp at h; simp [h]
theorem cutL_one_no {x0 x1 k : Int} (h : (x0 != k) = false) : cutL [(x0, x1)] k = [] := by unfold cutL; simp at h; simp [h]
/-- What the loop keeps. -/
structure OLoop (w wr : World) (out : Value) (ks : List Pr) : Prop where
  row : PRow wr (fun j => j < w.heap.size) out ks
  b : Below w.heap.size w wr
theorem OLoop.push {w wr w1 : World} {out out' : Value} {ks : List Pr} {q : Pr} (h : OLoop w wr out ks)
    (hR : PRow w1 (fun j => j < w.heap.size) out' (ks ++ [q])) (hO : Only (fun j => ¬ (j < w.heap.size)) wr w1) : OLoop w w1 out' (ks ++ [q]) :=
  ⟨hR, only_below (w0 := w) h.b hO (fun j hj => hj)⟩

set_option maxRecDepth 100000 in
set_option maxHeartbeats 6400000 in
theorem without_is (a : Option Addr) (cap : Nat) (l : List Pr) (k : Int) (w : World) (h : Prs w a cap l) (hl : l.length ≤ 2000000) :
    Calls Try.prog 25 #[.slice a l.length cap, .int .i64 k] w (WithIs w (cutL l k)) := by
  have HH := Lib.hid h
  have hc1 := h.1
  have hc2 := h.2.1
  clear h
  unfold maxLen at hc2
  go_enter Try.func25, Try.ntmps25
  go_wp2_with (fail)
  go_loopw [5, 10] (fun out i wr => ∃ (n : Nat) (ao : Option Addr) (cp m : Nat) (ks : List Pr), n ≤ l.length ∧ i = .int .i64 n ∧ out = .slice ao m cp ∧ m = ks.length ∧ m ≤ n ∧ ks = cutL (l.take n) k ∧ OLoop w wr out ks) (fun _ i _ => l.length - (intOf i).toNat)
  case atStart => exact ⟨0, none, 0, 0, [], Nat.zero_le _, rfl, rfl, rfl, Nat.le_refl _, rfl, PRow.nil _ _, Below.refl _ _⟩
  case round =>
    obtain ⟨n, ao, cp, m, ks, hn, rfl, rfl, rfl, hm, hks, hK⟩ := hrel
    have HKS := Lib.hid hks
    clear hks
    by_cases hlt : n < l.length
    · obtain ⟨q, hq⟩ : ∃ q, l[n]? = some q := ⟨_, List.getElem?_eq_getElem hlt⟩
      obtain ⟨b, o, rfl, c0, c1⟩ := (HH.out.below hK.b).2.2.1 n q hq
      obtain ⟨x0, x1⟩ := q
      dsimp only at c0 c1
      have HT := Lib.hid (cutL_take k hq)
      clear hq
      have hal := (Below.refl wr.heap.size wr).alloc (Nat.le_refl _) (.cells #[.int .i64 x0, .int .i64 x1] 42)
      have HR := Lib.hid (hK.row.below hal)
      have HK2 : Hid (OLoop w (wr.alloc (.cells #[.int .i64 x0, .int .i64 x1] 42)) (.slice ao ks.length cp) ks) := Lib.hid ⟨HR.out, hK.b.alloc hK.b.size _⟩
      have hws := hK.b.size
      have HS : Hid (∀ j, j < w.heap.size → j < (wr.alloc (.cells #[.int .i64 x0, .int .i64 x1] 42)).heap.size) := Lib.hid (fun j hj => by simp; omega)
      clear hK hal
      by_cases hne : x0 = k
      · have hne' : (x0 != k) = false := by simp [hne]
        have HN := Lib.hid hne'
        clear hne
        go_wp2_with (fail)
        go_roundw
        case rel => exact ⟨n + 1, ao, cp, ks.length, ks, by omega, by go_num, rfl, rfl, by omega, by rw [HT.out, cutL_one_no HN.out, List.append_nil]; exact HKS.out, HK2.out⟩
        case measure => simp [intOf]; omega
      · have hne' : (x0 != k) = true := by simp [hne]
        have HN := Lib.hid hne'
        clear hne
        go_wp2_with (first | (at_builtin; refine wpList_push rfl (.tmp 18) (.tmp 20) rfl (fun j => j < w.heap.size) _ ks x0 x1 rfl HR.out HS.out _ rfl (by simp) (by omega) ?_; intro ao1 cp1 w3 hm1 hc1 hR1 hk1 hO1; have HF := Lib.hid (HK2.out.push (q := (x0, x1)) hR1 hO1); clear hR1 hk1 hO1))
        go_roundw
        case rel => exact ⟨n + 1, ao1, cp1, ks.length + 1, ks ++ [(x0, x1)], by omega, by go_num, rfl, by simp, by omega, by rw [HT.out, cutL_one HN.out, ← HKS.out], HF.out⟩
        case measure => simp [intOf]; omega
    · obtain rfl : n = l.length := by omega
      have eL : ks = cutL l k := by rw [HKS.out, List.take_of_length_le (Nat.le_refl _)]
      have HL := Lib.hid hK
      have HE := Lib.hid eL
      clear hK eL
      go_wp2_with (fail)
      go_ret
      rw [← HE.out]
      exact ⟨_, _, rfl, HL.out.row, HL.out.b⟩
set_option maxRecDepth 100000 in
set_option maxHeartbeats 6400000 in
theorem samep_any (a a2 : Option Addr) (cap cap2 : Nat) (l m : List Pr) (w : World) (h : Prs w a cap l) (h2 : Prs w a2 cap2 m) (B : Bool) (hB : decide (l = m) = B) :
    Calls Try.prog 20 #[.slice a l.length cap, .slice a2 m.length cap2] w fun e w' => e = .returned (.bool B) ∧ Below w.heap.size w w' := by
  by_cases hlen : l.length = m.length
  · have HB := Lib.hid hB
    have HH := Lib.hid h
    have HH2 := Lib.hid h2
    have hc1 := h.1
    have hc2 := h.2.1
    have hc3 := h2.1
    have hc4 := h2.2.1
    have HLEN := Lib.hid hlen
    have hlen' : ((l.length : Int) == (m.length : Int)) = true := by simp [hlen]
    rw [← hlen] at hc3
    rw [← hlen]
    clear h h2 hB hlen
    unfold maxLen at hc2 hc4
    go_enter Try.func20, Try.ntmps20
    go_wp2_with (fail)
    go_loopw [13] (fun i wr => ∃ n : Nat, n ≤ l.length ∧ i = .int .i64 n ∧ (∀ j, j < n → l[j]? = m[j]?) ∧ Below w.heap.size w wr) (fun i _ => l.length - (intOf i).toNat)
    case atStart => exact ⟨0, Nat.zero_le _, rfl, fun j hj => absurd hj (Nat.not_lt_zero j), Below.refl _ _⟩
    case round =>
      obtain ⟨n, hn, rfl, hall, hb⟩ := hrel
      have HALL := Lib.hid hall
      clear hall
      by_cases hlt : n < l.length
      · obtain ⟨q, hq⟩ : ∃ q, l[n]? = some q := ⟨_, List.getElem?_eq_getElem hlt⟩
        obtain ⟨q', hq'⟩ : ∃ q, m[n]? = some q := ⟨_, List.getElem?_eq_getElem (by have := HLEN.out; omega)⟩
        obtain ⟨b, o, rfl, c0, c1⟩ := (HH.out.below hb).2.2.1 n q hq
        obtain ⟨b', o', rfl, d0, d1⟩ := (HH2.out.below hb).2.2.1 n q' hq'
        have HQ := Lib.hid (And.intro hq hq')
        obtain ⟨x0, x1⟩ := q
        obtain ⟨y0, y1⟩ := q'
        dsimp only at c0 c1 d0 d1
        clear hq hq'
        have hn0 : (0 : Int) ≤ (n : Int) := by omega
        have hnl : (n : Int) < (l.length : Int) := by omega
        by_cases he0 : x0 = y0
        · by_cases he1 : x1 = y1
          · subst he0
            subst he1
            go_wp2_with (fail)
            go_quiet (fail)
            go_wp2_with (fail)
            go_roundw
            case rel => exact ⟨n + 1, by omega, by go_num, fun j hj => by
              rcases Nat.lt_succ_iff_lt_or_eq.1 hj with hj | rfl
              · exact HALL.out j hj
              · rw [HQ.out.1, HQ.out.2], below_drewN hb _⟩
            case measure => simp [intOf]; omega
          · subst he0
            have hne : B = false := by
              rw [← HB.out]
              refine decide_eq_false (fun e => he1 ?_)
              subst e
              have := HQ.out.1.symm.trans HQ.out.2
              simp at this
              exact this
            have he1' : (x1 == y1) = false := by simp [he1]
            go_wp2_with (fail)
            go_quiet (fail)
            go_wp2_with (fail)
            go_ret
            exact ⟨by rw [hne]; rfl, below_drewN hb _⟩
        · have hne : B = false := by
            rw [← HB.out]
            refine decide_eq_false (fun e => he0 ?_)
            subst e
            have := HQ.out.1.symm.trans HQ.out.2
            simp at this
            exact this.1
          have he0' : (x0 == y0) = false := by simp [he0]
          go_wp2_with (fail)
          go_quiet (fail)
          go_wp2_with (fail)
          go_ret
          exact ⟨by rw [hne]; rfl, below_drewN hb _⟩
      · obtain rfl : n = l.length := by omega
        have heq : l = m := by
          apply List.ext_getElem?
          intro j
          by_cases hj : j < l.length
          · exact HALL.out j hj
          · rw [List.getElem?_eq_none (by omega), List.getElem?_eq_none (by have := HLEN.out; omega)]
        have hB : B = true := by rw [← HB.out]; exact decide_eq_true heq
        clear heq
        go_wp2_with (fail)
        go_ret
        exact ⟨by rw [hB]; rfl, hb⟩
  · have hne : B = false := by
      rw [← hB]
      exact decide_eq_false (fun e => hlen (by rw [e]))
    have hlen' : ((l.length : Int) == (m.length : Int)) = false := by simp; omega
    subst hne
    have hc2 := h.2.1
    have hc4 := h2.2.1
    clear h h2 hB hlen
    go_enter Try.func20, Try.ntmps20
    go_wp2_with (fail)
    go_ret
    exact ⟨rfl, Below.refl _ _⟩

set_option maxRecDepth 100000 in
set_option maxHeartbeats 6400000 in
theorem rmay_any (a : Option Addr) (cap : Nat) (l : List Pr) (w : World) (h : Prs w a cap l) (B : Bool) (hB : decide (Srt l) = B) :
    Calls Try.prog 63 #[.slice a l.length cap] w fun e w' => e = .returned (.bool B) ∧ Below w.heap.size w w' := by
  have HH := Lib.hid h
  have HB := Lib.hid hB
  have hc1 := h.1
  have hc2 := h.2.1
  clear h hB
  unfold maxLen at hc2
  go_enter Try.func63, Try.ntmps63
  go_wp2_with (fail)
  go_loopw [3] (fun i wr => ∃ n : Nat, n ≤ l.length ∧ i = .int .i64 (n + 1 : Int) ∧ (∀ (j : Nat) (a b : Pr), j < n → l[j]? = some a → l[j + 1]? = some b → a.1 < b.1) ∧ Below w.heap.size w wr) (fun i _ => l.length + 1 - (intOf i).toNat)
  case atStart => exact ⟨0, Nat.zero_le _, rfl, fun j _ _ hj => absurd hj (Nat.not_lt_zero _), Below.refl _ _⟩
  case round =>
    obtain ⟨n, hn, rfl, hall, hb⟩ := hrel
    have HALL := Lib.hid hall
    clear hall
    by_cases hlt : n + 1 < l.length
    · obtain ⟨q, hq⟩ : ∃ q, l[n]? = some q := ⟨_, List.getElem?_eq_getElem (by omega)⟩
      obtain ⟨q', hq'⟩ : ∃ q, l[n + 1]? = some q := ⟨_, List.getElem?_eq_getElem hlt⟩
      obtain ⟨b, o, rfl, c0, _⟩ := (HH.out.below hb).2.2.1 n q hq
      obtain ⟨b', o', e, d0, _⟩ := (HH.out.below hb).2.2.1 (n + 1) q' hq'
      cases e
      obtain ⟨x0, x1⟩ := q
      obtain ⟨y0, y1⟩ := q'
      dsimp only at c0 d0
      have HQ := Lib.hid (And.intro hq hq')
      clear hq hq'
      have hlt' : (n : Int) + 1 < (l.length : Int) := by omega
      have hn0 : (0 : Int) ≤ (n : Int) := by omega
      have hn1 : (0 : Int) ≤ (n : Int) + 1 := by omega
      have hnl : (n : Int) < (l.length : Int) := by omega
      have hw2 : IntKind.i64.wrap ((n : Int) + 1 - 1) = (n : Int) := by rw [IntKind.wrap_i64]; omega
      have ht : ((n : Int) + 1).toNat = n + 1 := by omega
      by_cases hxy : y0 ≤ x0
      · have hy : decide (y0 ≤ x0) = true := decide_eq_true hxy
        have hB : B = false := by
          rw [← HB.out]
          refine decide_eq_false (fun hs => ?_)
          have := hs.at n (n + 1) _ _ (by omega) HQ.out.1 HQ.out.2
          dsimp only at this
          omega
        clear hxy
        go_wp2_with (fail)
        go_quiet (fail)
        go_wp2_with (fail)
        go_ret
        exact ⟨congrArg (fun b : Bool => Ending.returned (.bool b)) hB.symm, below_drewN hb _⟩
      · have hy : decide (y0 ≤ x0) = false := decide_eq_false hxy
        have HL := Lib.hid (show x0 < y0 by omega)
        clear hxy
        go_wp2_with (fail)
        go_quiet (fail)
        go_wp2_with (fail)
        go_roundw
        case rel => exact ⟨n + 1, by omega, by go_num, fun j a b hj ha hb => by
          rcases Nat.lt_succ_iff_lt_or_eq.1 hj with hj | rfl
          · exact HALL.out j a b hj ha hb
          · have h1 := HQ.out.1.symm.trans ha
            have h2 := HQ.out.2.symm.trans hb
            cases h1; cases h2
            exact HL.out, below_drewN hb _⟩
        case measure => simp [intOf]; omega
    · have hge : ¬ (n : Int) + 1 < (l.length : Int) := by omega
      have hB : B = true := by
        rw [← HB.out]
        refine decide_eq_true (adj_srt l (fun i a b ha hb => HALL.out i a b ?_ ha hb))
        have := (List.getElem?_eq_some_iff.1 hb).1
        omega
      go_wp2_with (fail)
      go_ret
      exact ⟨rfl, hb⟩

end Go.Proofs.Ytpdliokpbnpppaa


namespace Go.Proofs.Ytpdliokpbnpppaa
open Go.RowKit
set_option linter.all false

set_option maxRecDepth 100000 in
set_option maxHeartbeats 6400000 in
theorem rsamenode_any (n m : Nd) (pa qa : Option Addr) (pc qc : Nat) (w : World) (h : Prs w pa pc n.p) (h2 : Prs w qa qc m.p) (B : Bool) (hB : B = true ↔ n = m) :
    Calls Try.prog 62 #[ndv n pa pc, ndv m qa qc] w fun e w' => e = .returned (.bool B) ∧ Below w.heap.size w w' := by
  obtain ⟨r, k, l, b, p, s⟩ := n
  obtain ⟨r', k', l', b', p', s'⟩ := m
  rw [Nd.mk.injEq] at hB
  unfold ndv
  dsimp only at h h2 ⊢
  have b1 : Below w.heap.size w (w.alloc (.cells #[.bool r, .int .i64 k, .int .i64 l, .int .i64 b, .slice pa p.length pc, .int .i64 s] 39)) := al1 _
  have b2 : Below w.heap.size w ((w.alloc (.cells #[.bool r, .int .i64 k, .int .i64 l, .int .i64 b, .slice pa p.length pc, .int .i64 s] 39)).alloc (.cells #[.bool r', .int .i64 k', .int .i64 l', .int .i64 b', .slice qa p'.length qc, .int .i64 s'] 39)) := bel1 b1 _
  have c := samep_any pa qa pc qc p p' _ (h.below b2) (h2.below b2) (decide (p = p')) rfl
  by_cases h0 : r = r'
  case neg =>
    obtain rfl : B = false := by cases B <;> simp_all
    have e0 : (r == r') = false := by simpa using h0
    clear hB c
    go_enter Try.func62, Try.ntmps62
    go_wp2_with (fail)
    go_ret
    exact ⟨rfl, b2⟩
  subst h0
  by_cases h0 : k = k'
  case neg =>
    obtain rfl : B = false := by cases B <;> simp_all
    have e0 : (k == k') = false := by simpa using h0
    clear hB c
    go_enter Try.func62, Try.ntmps62
    go_wp2_with (fail)
    go_ret
    exact ⟨rfl, b2⟩
  subst h0
  by_cases h0 : l = l'
  case neg =>
    obtain rfl : B = false := by cases B <;> simp_all
    have e0 : (l == l') = false := by simpa using h0
    clear hB c
    go_enter Try.func62, Try.ntmps62
    go_wp2_with (fail)
    go_ret
    exact ⟨rfl, b2⟩
  subst h0
  by_cases h0 : b = b'
  case neg =>
    obtain rfl : B = false := by cases B <;> simp_all
    have e0 : (b == b') = false := by simpa using h0
    clear hB c
    go_enter Try.func62, Try.ntmps62
    go_wp2_with (fail)
    go_ret
    exact ⟨rfl, b2⟩
  subst h0
  by_cases h0 : s = s'
  case neg =>
    obtain rfl : B = false := by cases B <;> simp_all
    have e0 : (s == s') = false := by simpa using h0
    clear hB c
    go_enter Try.func62, Try.ntmps62
    go_wp2_with (fail)
    go_ret
    exact ⟨rfl, b2⟩
  subst h0
  have hB2 : decide (p = p') = B := by
    cases B
    · simpa using hB
    · simpa using hB
  rw [hB2] at c
  have HB := Lib.hid b2
  clear hB hB2 h h2 b1 b2
  go_enter Try.func62, Try.ntmps62
  go_wp2_with (go_at_call 20; ((with_reducible refine c.mono ?_); clear c; rintro e w2 ⟨rfl, hb2⟩))
  go_ret
  exact ⟨by simp, bel2 HB.out hb2⟩

end Go.Proofs.Ytpdliokpbnpppaa

namespace Go.Proofs.Ytpdliokpbnpppaa
open Go.RowKit
set_option linter.all false

section
variable {a : Option Addr} {cap : Nat} {N : List Nd} {w0 : World}
end
section
variable {a : Option Addr} {cap : Nat} {N : List Nd} {w0 : World}
end
end Go.Proofs.Ytpdliokpbnpppaa


namespace Go.Proofs.Ytpdliokpbnpppaa
set_option linter.all false

/-- What each node is then: those of l have the new stat, once each. -/
theorem stN_nd {f : Int → Int} : ∀ {l : List Nat} {N : List Nd}, l.Nodup → (∀ i ∈ l, i < N.length) → ∀ j, nd (stN f l N) j = if j ∈ l then ⟨false, 0, 0, 0, (nd N j).p, f (nd N j).s⟩ else nd N j := by
  intro l
  induction l with
  | nil => intro N _ _ j; simp [stN]
  | cons i l ih =>
    intro N hn hl j
    obtain ⟨h1, h2⟩ := List.nodup_cons.1 hn
    have hi := hl i List.mem_cons_self
    rw [stN, ih h2 (fun k hk => by rw [List.length_set]; exact hl k (List.mem_cons_of_mem _ hk))]
    by_cases e : j = i
    · subst e
      rw [if_neg h1, if_pos List.mem_cons_self, nd_set hi]
    · rw [nd_set_ne (fun e' => e e'.symm)]
      simp [e]

end Go.Proofs.Ytpdliokpbnpppaa


namespace Go.Proofs.Ytpdliokpbnpppaa
set_option linter.all false

/-! ### A join's stats -/
theorem addL_st {p : List Pr} : ∀ {T : AT}, ∀ e ∈ (addL p T).lst, e.2 = 0 ∨ e ∈ T.lst := by
  intro T
  induction T with
  | lf q st => intro e h; simp only [addL, AT.lst, List.mem_cons, List.not_mem_nil, or_false] at h; exact .inl (by rw [h])
  | rt k l r ihl ihr =>
    intro e h
    simp only [addL, AT.lst, List.mem_append] at h ⊢
    rcases h with h | h
    · rcases ihl e h with h | h
      · exact .inl h
      · exact .inr (.inl h)
    · exact .inr (.inr h)
theorem addR_st {p : List Pr} : ∀ {T : AT}, ∀ e ∈ (addR p T).lst, e.2 = 0 ∨ e ∈ T.lst := by
  intro T
  induction T with
  | lf q st => intro e h; simp only [addR, AT.lst, List.mem_cons, List.not_mem_nil, or_false] at h; exact .inl (by rw [h])
  | rt k l r ihl ihr =>
    intro e h
    simp only [addR, AT.lst, List.mem_append] at h ⊢
    rcases h with h | h
    · exact .inr (.inl h)
    · rcases ihr e h with h | h
      · exact .inl h
      · exact .inr (.inr h)
/-- A join's stats: nought, or those of other leaves. -/
theorem joinA_st {N : List Nd} {i : Nat} : ∀ {s : Sh} {T : AT}, s.lvs.Nodup → i ∈ s.lvs → joinA N i s = some T → ∀ e ∈ T.lst, e.2 = 0 ∨ ∃ j ∈ s.lvs, j ≠ i ∧ e = pst N j := by
  intro s
  have hab : ∀ {r : Sh}, i ∉ r.lvs → ∀ e ∈ (ab N r).lst, ∃ j ∈ r.lvs, j ≠ i ∧ e = pst N j := by
    intro r hr e he
    rw [ab_lst, List.mem_map] at he
    obtain ⟨j, hj, rfl⟩ := he
    exact ⟨j, hj, fun e => hr (e ▸ hj), rfl⟩
  induction s with
  | lf j => intro T _ _ h; cases h
  | rt j l r ihl ihr =>
    intro T hn hi h e he
    have hn' : (l.lvs ++ r.lvs).Nodup := hn
    obtain ⟨n1, n2, n3⟩ := List.nodup_append.1 hn'
    show _ ∨ ∃ j ∈ l.lvs ++ r.lvs, _
    simp only [List.mem_append]
    rcases ways (l := l) (r := r) hi with rfl | ⟨h1, rfl⟩ | ⟨h1, h2, h3⟩ | ⟨h1, h2, h3, h4⟩
    · rw [joinA_1] at h
      cases h
      have hr : i ∉ r.lvs := fun hh => n3 i (by simp [Sh.lvs]) i hh rfl
      rcases addL_st e he with he | he
      · exact .inl he
      · obtain ⟨j, a, b, c⟩ := hab hr e he
        exact .inr ⟨j, .inr a, b, c⟩
    · rw [joinA_2 h1] at h
      cases h
      have hl : i ∉ l.lvs := fun hh => n3 i hh i (by simp [Sh.lvs]) rfl
      rcases addR_st e he with he | he
      · exact .inl he
      · obtain ⟨j, a, b, c⟩ := hab hl e he
        exact .inr ⟨j, .inl a, b, c⟩
    · rw [joinA_3 h1 h2 h3, Option.map_eq_some_iff] at h
      obtain ⟨L, hL, rfl⟩ := h
      have hr : i ∉ r.lvs := fun hh => n3 i h3 i hh rfl
      simp only [AT.lst, List.mem_append] at he
      rcases he with he | he
      · rcases ihl n1 h3 hL e he with he | ⟨j, a, b, c⟩
        · exact .inl he
        · exact .inr ⟨j, .inl a, b, c⟩
      · obtain ⟨j, a, b, c⟩ := hab hr e he
        exact .inr ⟨j, .inr a, b, c⟩
    · rw [joinA_4 h1 h2 h3, Option.map_eq_some_iff] at h
      obtain ⟨R, hR, rfl⟩ := h
      simp only [AT.lst, List.mem_append] at he
      rcases he with he | he
      · obtain ⟨j, a, b, c⟩ := hab h3 e he
        exact .inr ⟨j, .inl a, b, c⟩
      · rcases ihr n2 h4 hR e he with he | ⟨j, a, b, c⟩
        · exact .inl he
        · exact .inr ⟨j, .inr a, b, c⟩
end Go.Proofs.Ytpdliokpbnpppaa


namespace Go.Proofs.Ytpdliokpbnpppaa
open Go.RowKit

/-- osierref1.Plain is right of this tree. -/
def RP (t : Int) (a : Option Addr) (cap : Nat) (N : List Nd) (x : Bool) (P : List Nd) : Prop := ∀ W, Ns W a cap N → Calls Try.prog 17 #[trv t a cap N] W (PlB W x P)

end Go.Proofs.Ytpdliokpbnpppaa


namespace Go.Proofs.Ytpdliokpbnpppaa
open Go.RowKit
set_option linter.all false

attribute [local go_sem] mkN_run
/-- What Set tells. -/
def SetIs (w : World) (r : Int) (Q : List Nd) (x : Bool) (e : Ending) (w' : World) : Prop := ∃ ao cp, e = .returned (.tuple #[.agg #[.int .i64 r, .slice ao Q.length cp], .bool x]) ∧ Ns w' ao cp Q ∧ Below w.heap.size w w'
/-- Set's answer. -/
def SetO (N : List Nd) (t : Int) (y : Int) (l : List Pr) (st : Int) (r : Int) (Q : List Nd) (x : Bool) : Prop :=
  (x = true ∧ r = t ∧ (∃ s, Tr N s t) ∧ ∃ (j : Nat) (n : Nd), y = j ∧ N[j]? = some n ∧ n.r = false ∧ Q = N.set j (lfn l st) ∧ ∃ s, Tr Q s t) ∨
  (x = false ∧ r = 0 ∧ Q = [] ∧ ¬ ((∃ s, Tr N s t) ∧ ∃ (j : Nat) (n : Nd), y = j ∧ N[j]? = some n ∧ n.r = false ∧ ∃ s, Tr (N.set j (lfn l st)) s t))
set_option maxRecDepth 100000 in
set_option maxHeartbeats 6400000 in
theorem tset_no (t : Int) (a : Option Addr) (cap : Nat) (N : List Nd) (y : Int) (pa : Option Addr) (pc : Nat) (l : List Pr) (st : Int) (w : World) (hN : Ns w a cap N) (hsm : Small N)
    (h : (∀ s, ¬ Tr N s t) ∨ (∃ s, Tr N s t) ∧ ∀ (j : Nat) (n : Nd), y = j → N[j]? = some n → n.r = true) :
    Calls Try.prog 24 #[trv t a cap N, .int .i64 y, .slice pa l.length pc, .int .i64 st] w (SetIs w 0 [] false) := by
  have hl1 := hsm.1
  have hc1 := hN.1
  have hc2 := hN.2.1
  unfold maxLen at hc2
  have b2 : Below w.heap.size w ((w.alloc (.cells #[.int .i64 t, .slice a N.length cap] 25)).alloc (.cells #[.int .i64 0, .slice none 0 0] 25)) := bel1 (al1 _) _
  have cm := fun B hB => tmay_any t a cap N _ (hN.keep b2) hsm B hB
  have B1 := Lib.hid (Bk.past (Bk.new w #[.int .i64 t, .slice a N.length cap] 25) (.cells #[.int .i64 0, .slice none 0 0] 25))
  have B2 := Lib.hid (show Bk ((w.alloc (.cells #[.int .i64 t, .slice a N.length cap] 25)).alloc (.cells #[.int .i64 0, .slice none 0 0] 25)) (w.heap.size + 1) [.int .i64 0, .slice none 0 0] from by
    have h := Bk.new (w.alloc (.cells #[.int .i64 t, .slice a N.length cap] 25)) #[.int .i64 0, .slice none 0 0] 25
    simp only [World.size_alloc] at h; exact h)
  have HB := Lib.hid b2
  have HN := Lib.hid hN
  unfold trv at cm ⊢
  clear b2 hN
  rcases h with h | ⟨h, h2⟩
  · have cm' := cm false ⟨fun h => (by cases h), fun ⟨s, hs⟩ => absurd hs (h s)⟩
    clear cm h hc1 hc2 hl1
    go_enter Try.func24, Try.ntmps24
    go_wp2_with (go_at_call 13; ((with_reducible refine cm'.mono ?_); clear cm'; rintro e w3 ⟨rfl, hb3⟩; have R2 := Lib.hid (B2.out.keep hb3); have HR := Lib.hid hb3; clear hb3; have g0 := R2.out.fr 0; have g1 := R2.out.fr 1; have m0 := R2.out.at_ 0 _ rfl; have m1 := R2.out.at_ 1 _ rfl))
    refine bodyPost_ret (v := .tuple #[.agg #[.int .i64 0, .slice none 0 0], .bool false]) (by simp [results, Try.results24, go_sem, m0, m1]) rfl ⟨none, 0, rfl, Ns.none _, ?_⟩
    repeat' (first | refine Below.setCell ?_ (by dsimp only; omega) _ | exact bel2 HB.out HR.out)
  · have cm' := cm true ⟨fun _ => h, fun _ => rfl⟩
    clear cm h
    by_cases h0 : y < 0
    · have h0' : decide (y < 0) = true := decide_eq_true h0
      clear h2 h0 hc1 hc2 hl1
      go_enter Try.func24, Try.ntmps24
      go_wp2_with (go_at_call 13; ((with_reducible refine cm'.mono ?_); clear cm'; rintro e w3 ⟨rfl, hb3⟩; have R2 := Lib.hid (B2.out.keep hb3); have HR := Lib.hid hb3; clear hb3; have g0 := R2.out.fr 0; have g1 := R2.out.fr 1; have m0 := R2.out.at_ 0 _ rfl; have m1 := R2.out.at_ 1 _ rfl))
      refine bodyPost_ret (v := .tuple #[.agg #[.int .i64 0, .slice none 0 0], .bool false]) (by simp [results, Try.results24, go_sem, m0, m1]) rfl ⟨none, 0, rfl, Ns.none _, ?_⟩
      repeat' (first | refine Below.setCell ?_ (by dsimp only; omega) _ | exact bel2 HB.out HR.out)
    · by_cases h1 : (N.length : Int) ≤ y
      · have h0' : decide (y < 0) = false := decide_eq_false h0
        have h1' : decide ((N.length : Int) ≤ y) = true := decide_eq_true h1
        clear h2 h0 h1 hc1 hc2 hl1
        go_enter Try.func24, Try.ntmps24
        go_wp2_with (go_at_call 13; ((with_reducible refine cm'.mono ?_); clear cm'; rintro e w3 ⟨rfl, hb3⟩; have R2 := Lib.hid (B2.out.keep hb3); have HR := Lib.hid hb3; have x1 := (B1.out.keep hb3).at_ 1 _ rfl; clear hb3; have g0 := R2.out.fr 0; have g1 := R2.out.fr 1; have m0 := R2.out.at_ 0 _ rfl; have m1 := R2.out.at_ 1 _ rfl))
        refine bodyPost_ret (v := .tuple #[.agg #[.int .i64 0, .slice none 0 0], .bool false]) (by simp [results, Try.results24, go_sem, m0, m1]) rfl ⟨none, 0, rfl, Ns.none _, ?_⟩
        repeat' (first | refine Below.setCell ?_ (by dsimp only; omega) _ | exact bel2 HB.out HR.out)
      · obtain ⟨j, rfl⟩ : ∃ j : Nat, y = j := ⟨y.toNat, by omega⟩
        have hj : j < N.length := by omega
        obtain ⟨n, hn⟩ : ∃ n, N[j]? = some n := ⟨_, List.getElem?_eq_getElem hj⟩
        have hr := h2 j n rfl hn
        obtain ⟨b, o, qa, qc, rfl, hna⟩ := HN.out.2.2 j n hn
        have h0' : decide ((j : Int) < 0) = false := decide_eq_false h0
        have h1' : decide ((N.length : Int) ≤ (j : Int)) = false := decide_eq_false h1
        have hj0 : (0 : Int) ≤ (j : Int) := by omega
        have hj1 : (j : Int) < (N.length : Int) := by omega
        have HA := Lib.hid hna
        have e0 := hna.c0
        rw [hr] at e0
        have HE := Lib.hid e0
        clear h2 h0 h1 hl1 hna hr e0 hn
        go_enter Try.func24, Try.ntmps24
        go_wp2_with (go_at_call 13; ((with_reducible refine cm'.mono ?_); clear cm'; rintro e w3 ⟨rfl, hb3⟩; have R2 := Lib.hid (B2.out.keep hb3); have HR := Lib.hid hb3; have x1 := (B1.out.keep hb3).at_ 1 _ rfl; have x2 := kc (bel2 HB.out hb3) HE.out; clear hb3; have g0 := R2.out.fr 0; have g1 := R2.out.fr 1; have m0 := R2.out.at_ 0 _ rfl; have m1 := R2.out.at_ 1 _ rfl))
        refine bodyPost_ret (v := .tuple #[.agg #[.int .i64 0, .slice none 0 0], .bool false]) (by simp [results, Try.results24, go_sem, m0, m1]) rfl ⟨none, 0, rfl, Ns.none _, ?_⟩
        repeat' (first | refine Below.setCell ?_ (by dsimp only; omega) _ | exact bel2 HB.out HR.out)
end Go.Proofs.Ytpdliokpbnpppaa

namespace Go.Proofs.Ytpdliokpbnpppaa
open Go.RowKit
set_option linter.all false

attribute [local go_sem] mkN_run
/-- The tree that Set makes: its box, its row. -/
structure Tw (z : Nat) (W : World) (q9 gq : Nat) (t : Int) (N : List Nd) (wr : World) (M : List RN) : Prop where
  b : Below W.heap.size W wr
  u : Bk wr q9 [.int .i64 t, .slice (some ⟨gq, 0, none⟩) N.length N.length]
  r : NRow wr (fun k => k = z) (.slice (some ⟨gq, 0, none⟩) N.length N.length) M
  l : M.length = N.length
  ne : q9 ≠ gq ∧ W.heap.size ≤ gq ∧ W.heap.size ≤ q9 ∧ z < W.heap.size
theorem Tw.drew {z : Nat} {W : World} {q9 gq : Nat} {t : Int} {N : List Nd} {wr : World} {M : List RN} (h : Tw z W q9 gq t N wr M) : Tw z W q9 gq t N wr.drew M := ⟨h.b.drew, h.u.drew, h.r.drew, h.l, h.ne⟩
theorem Tw.keep {z : Nat} {W : World} {q9 gq : Nat} {t : Int} {N : List Nd} {wr X : World} {M : List RN} (h : Tw z W q9 gq t N wr M) (hb : Below wr.heap.size wr X) : Tw z W q9 gq t N X M := ⟨bel2 h.b hb, h.u.keep hb, h.r.keep hb, h.l, h.ne⟩
theorem Tw.put {z : Nat} {W : World} {q9 gq : Nat} {t : Int} {N : List Nd} {wr : World} {M : List RN} (h : Tw z W q9 gq t N wr M) {w7 X : World} {y : Nat} {m : RN} (hm : M[y]? = some m) (m' : RN)
    (hb7 : Below wr.heap.size wr w7) (hR : PRow w7 (fun j => j < wr.heap.size) (.slice m'.a m'.n.p.length m'.c) m'.n.p) (hb : Below w7.heap.size w7 X) :
    Tw z W q9 gq t N ((((((X.setCell ⟨gq, y * 6, none⟩ (.bool m'.n.r)).setCell ⟨gq, y * 6 + 1, none⟩ (.int .i64 m'.n.k)).setCell ⟨gq, y * 6 + 2, none⟩ (.int .i64 m'.n.a)).setCell ⟨gq, y * 6 + 3, none⟩ (.int .i64 m'.n.b)).setCell ⟨gq, y * 6 + 4, none⟩ (.slice m'.a m'.n.p.length m'.c)).setCell ⟨gq, y * 6 + 5, none⟩ (.int .i64 m'.n.s)) (M.set y m') := by
  obtain ⟨n1, n2, n3, n4⟩ := h.ne
  have bX := h.b.trans ((bel2 hb7 hb).mono h.b.size)
  have hO : Only (fun i => i = gq) X ((((((X.setCell ⟨gq, y * 6, none⟩ (.bool m'.n.r)).setCell ⟨gq, y * 6 + 1, none⟩ (.int .i64 m'.n.k)).setCell ⟨gq, y * 6 + 2, none⟩ (.int .i64 m'.n.a)).setCell ⟨gq, y * 6 + 3, none⟩ (.int .i64 m'.n.b)).setCell ⟨gq, y * 6 + 4, none⟩ (.slice m'.a m'.n.p.length m'.c)).setCell ⟨gq, y * 6 + 5, none⟩ (.int .i64 m'.n.s)) := only_six (Only.refl _ X) (.inl rfl)
  refine ⟨bX.trans (hO.below (B := W.heap.size) (fun i hi => by have : i = gq := hi; omega) bX.size), (h.u.keep (bel2 hb7 hb)).only hO n1, ?_, by rw [List.length_set]; exact h.l, h.ne⟩
  exact (h.r.keep (bel2 hb7 hb)).six hm m' ((hR.prs rfl).below hb) (fun _ b o sp e => by
    have h1 := hR.av b (by have e2 : m'.a = some ⟨b, o, sp⟩ := e; rw [e2]; rfl)
    have h4 : ¬ b < wr.heap.size := h1
    have h5 := h.b.size
    have h6 : gq < wr.heap.size := by
      have h7 : 0 < M.length ∨ M.length = 0 := by omega
      have := (List.getElem?_eq_some_iff.1 hm).1
      obtain ⟨g', eg, _, hna, _⟩ := h.r.at hm
      cases eg
      have := World.block_lt_of_cell? wr _ hna.c0
      exact this
    exact ⟨fun e' => by have : b = z := e'; omega, fun e' => by omega⟩)

set_option maxRecDepth 100000 in
set_option maxHeartbeats 12800000 in
theorem tset_yes (t : Int) (a : Option Addr) (cap : Nat) (N : List Nd) (y : Nat) (n0 : Nd) (pa : Option Addr) (pc : Nat) (l : List Pr) (st : Int) (w : World) (hN : Ns w a cap N) (hsm : Small N) (hl : Prs w pa pc l) (hll : l.length ≤ 1100000)
    (h : ∃ s, Tr N s t) (hn0 : N[y]? = some n0) (hr0 : n0.r = false) (B : Bool) (hB : B = true ↔ ∃ s, Tr (N.set y (lfn l st)) s t) :
    Calls Try.prog 24 #[trv t a cap N, .int .i64 y, .slice pa l.length pc, .int .i64 st] w (SetIs w (bif B then t else 0) (bif B then N.set y (lfn l st) else []) B) := by
  have hl1 := hsm.1
  have hc1 := hN.1
  have hc2 := hN.2.1
  unfold maxLen at hc2
  have b2 : Below w.heap.size w ((w.alloc (.cells #[.int .i64 t, .slice a N.length cap] 25)).alloc (.cells #[.int .i64 0, .slice none 0 0] 25)) := bel1 (al1 _) _
  have cm := tmay_any t a cap N _ (hN.keep b2) hsm true ⟨fun _ => h, fun _ => rfl⟩
  have B1 := Lib.hid (Bk.past (Bk.new w #[.int .i64 t, .slice a N.length cap] 25) (.cells #[.int .i64 0, .slice none 0 0] 25))
  have B2 := Lib.hid (show Bk ((w.alloc (.cells #[.int .i64 t, .slice a N.length cap] 25)).alloc (.cells #[.int .i64 0, .slice none 0 0] 25)) (w.heap.size + 1) [.int .i64 0, .slice none 0 0] from by
    have h := Bk.new (w.alloc (.cells #[.int .i64 t, .slice a N.length cap] 25)) #[.int .i64 0, .slice none 0 0] 25
    simp only [World.size_alloc] at h; exact h)
  have HB := Lib.hid b2
  have HN := Lib.hid hN
  have HS := Lib.hid hsm
  have HL := Lib.hid hl
  have hj : y < N.length := (List.getElem?_eq_some_iff.1 hn0).1
  have h0' : decide ((y : Int) < 0) = false := decide_eq_false (by omega)
  have h1' : decide (N.length ≤ y) = false := decide_eq_false (by omega)
  have h1n : ¬ N.length ≤ y := by omega
  have hj0 : (0 : Int) ≤ (y : Int) := by omega
  have hj1 : (y : Int) < (N.length : Int) := by omega
  have hE : ∃ b o, a = some ⟨b, o, none⟩ ∧ w.cell? ⟨b, o + y * 6, none⟩ = some (.bool false) := by
    obtain ⟨b, o, qa, qc, e, hna⟩ := hN.2.2 y n0 hn0
    have e0 := hna.c0
    rw [hr0] at e0
    exact ⟨b, o, e, e0⟩
  obtain ⟨b, o, rfl, e0⟩ := hE
  have HE := Lib.hid e0
  unfold trv at cm ⊢
  clear b2 hN h hn0 hr0 hsm hl e0
  go_enter Try.func24, Try.ntmps24
  go_upto_region 3 with (go_at_call 13; ((with_reducible refine cm.mono ?_); clear cm; rintro e w3 ⟨rfl, hb3⟩; have R1 := Lib.hid (B1.out.keep hb3); have R2 := Lib.hid (B2.out.keep hb3); have HB3 := Lib.hid (bel2 HB.out hb3); clear hb3; have k0 := R1.out.at_ 0 _ rfl; have k1 := R1.out.at_ 1 _ rfl; have k2 := kc HB3.out HE.out))
  clear k2 h0' h1' h1n
  have hz : w.heap.size + 1 < w3.heap.size := R2.out.lt
  have TA := Lib.hid (show Tw (w.heap.size + 1) w3 (w3.heap.size + 1) w3.heap.size t N ((w3.alloc (.cells (mkN N.length) 39)).alloc (.cells #[.int .i64 t, .slice (some ⟨w3.heap.size, 0, none⟩) N.length N.length] 25)).drew (List.replicate N.length RN.z) from
    ⟨(bel1 (al1 _) _).drew, by
      have h := (Bk.new (w3.alloc (.cells (mkN N.length) 39)) #[.int .i64 t, .slice (some ⟨w3.heap.size, 0, none⟩) N.length N.length] 25).drew
      simp only [World.size_alloc] at h; exact h, ((NRow.made w3 N.length hl1 (fun k => k = w.heap.size + 1) (fun h => by have h : w3.heap.size = w.heap.size + 1 := h; omega)).keep (al1 _)).drew, List.length_replicate .., by omega, Nat.le_refl _, by omega, hz⟩)
  have TB := Lib.hid (show Tw (w.heap.size + 1) w3 w3.heap.size (w3.heap.size + 1) t N ((w3.alloc (.cells #[.int .i64 t, .slice (some ⟨w3.heap.size + 1, 0, none⟩) N.length N.length] 25)).alloc (.cells (mkN N.length) 39)).drew (List.replicate N.length RN.z) from
    ⟨(bel1 (al1 _) _).drew, ((Bk.new w3 #[.int .i64 t, .slice (some ⟨w3.heap.size + 1, 0, none⟩) N.length N.length] 25).past _).drew, by
      have h := (NRow.made (w3.alloc (.cells #[.int .i64 t, .slice (some ⟨w3.heap.size + 1, 0, none⟩) N.length N.length] 25)) N.length hl1 (fun k => k = w.heap.size + 1) (fun h => by have h : (w3.alloc _).heap.size = w.heap.size + 1 := h; simp at h; omega)).drew
      simp only [World.size_alloc] at h; exact h, List.length_replicate .., by omega, by omega, Nat.le_refl _, hz⟩)
  have hNne : ¬ N = [] := fun e => by rw [e] at hj; exact absurd hj (by simp)
  have HZ := Lib.hid hz
  have h1z : w.heap.size < w3.heap.size := by omega
  clear hz
  go_cut [10] from 36 to 42 (fun x wx => ∃ q9 gq, x = .pointer (some ⟨q9, 0, none⟩) ∧ Tw (w.heap.size + 1) w3 q9 gq t N wx (List.replicate N.length RN.z))
  case first =>
    go_region
    all_goals go_wp2_with (fail)
    all_goals go_meet
    case rel => exact ⟨_, _, rfl, TA.out⟩
    case rel => exact ⟨_, _, rfl, TB.out⟩
  case rest =>
    obtain ⟨q9, gq, rfl, hTw⟩ := hcut
    have HU0 := Lib.hid hTw
    have q1 := (R1.out.keep hTw.b).at_ 1 _ rfl
    clear TA TB hNne h1z k0 k1 hTw B1 B2 HB
    go_wp2_with (fail)
    go_loopw [46] (fun i wr => ∃ (j : Nat) (M : List RN), j ≤ N.length ∧ i = .int .i64 j ∧ Tw (w.heap.size + 1) w3 q9 gq t N wr M ∧ ∀ i, i < j → (M.map (fun m => m.n))[i]? = N[i]?) (fun i _ => N.length - (intOf i).toNat)
    case atStart => exact ⟨0, _, Nat.zero_le _, rfl, HU0.out, fun i hi => absurd hi (Nat.not_lt_zero i)⟩
    case round =>
      obtain ⟨j, M, hjn, rfl, hTw, hd⟩ := hrel
      have HU := Lib.hid hTw
      have HD := Lib.hid hd
      clear hd q1
      by_cases hlt : j < N.length
      · obtain ⟨x, hx⟩ : ∃ x, N[j]? = some x := ⟨_, List.getElem?_eq_getElem hlt⟩
        obtain ⟨b', o', qa, qc, e', hx1⟩ := (HN.out.keep (HB3.out.trans (hTw.b.mono HB3.out.size))).2.2 j x hx
        cases e'
        have HP0 := Lib.hid hx1.ps
        have hpl := HS.out.at hx
        obtain ⟨m, hm⟩ : ∃ m, M[j]? = some m := ⟨_, List.getElem?_eq_getElem (by rw [hTw.l]; exact hlt)⟩
        have HM := Lib.hid hm
        have HX := Lib.hid hx
        have hj0 : (0 : Int) ≤ (j : Int) := by omega
        have hjl : (j : Int) < (N.length : Int) := by omega
        obtain ⟨e0, e1, e2, e3, e4, e5, -⟩ := hx1
        obtain ⟨r, kk, lf, bb, p, sx⟩ := x
        dsimp only at e0 e1 e2 e3 e4 e5 HP0 hpl
        have cn := fun W (h : Prs W qa qc p) => cnode_any ⟨r, kk, lf, bb, p, sx⟩ qa qc W h (show p.length ≤ 3000000 by omega)
        unfold CnIs ndv at cn
        dsimp only at cn
        have hu1 := (hTw.u.keep (al1 (.cells #[.bool r, .int .i64 kk, .int .i64 lf, .int .i64 bb, .slice qa p.length qc, .int .i64 sx] 39))).at_ 1 _ rfl
        obtain ⟨g', eg, -, hna, hfz⟩ := hTw.r.at hm
        cases eg
        have NM := Lib.hid (And.intro hna hfz)
        have hgl := World.block_lt_of_cell? wr _ hna.c0
        have HG := Lib.hid (show gq < wr.heap.size from hgl)
        clear hm hx hTw hpl hna hfz hgl
        have HDD := Lib.hid (show ∀ ao7 cp7, ∀ i, i < j + 1 → ((M.set j ⟨⟨r, kk, lf, bb, p, sx⟩, ao7, cp7⟩).map (fun m => m.n))[i]? = N[i]? from fun ao7 cp7 i hi => by
          by_cases e : i = j
          · subst e
            rw [List.getElem?_map, List.getElem?_set_self (by rw [HU.out.l]; exact hlt), HX.out]; rfl
          · rw [List.getElem?_map, List.getElem?_set_ne (fun e' => e e'.symm), ← List.getElem?_map]
            exact HD.out i (by omega))
        go_upto_region 7 with (fail)
        go_region_with (go_at_call 43; (first | (with_reducible refine (cn _ (HP0.out.below (al1 _))).mono ?_) | (with_reducible refine (cn _ (HP0.out.below (al1 _).drew)).mono ?_)); rintro e w7 ⟨ao7, cp7, rfl, hR7, hb7⟩; first | (have H7 := Lib.hid (show PRow w7 (fun j => j < wr.heap.size) (.slice ao7 p.length cp7) p ∧ Below wr.heap.size wr w7 from ⟨hR7.sub (fun k _ hk => Nat.lt_trans hk (by simp)), bel2 (al1 _) hb7⟩)) | (have H7 := Lib.hid (show PRow w7 (fun j => j < wr.heap.size) (.slice ao7 p.length cp7) p ∧ Below wr.heap.size wr w7 from ⟨hR7.sub (fun k _ hk => Nat.lt_trans hk (by simp [World.drew])), bel2 (al1 _).drew hb7⟩)); clear hR7 hb7; have hu2 := (HU.out.u.keep H7.out.2).at_ 1 _ rfl; obtain ⟨x0, x1, x2, x3, x4, x5, -⟩ := NM.out.1.keep H7.out.2; have fz := fun j => (Bk.keep ⟨HG.out, fun j v hj => (by cases hj), NM.out.2⟩ H7.out.2 : Bk _ gq []).fr j)
        all_goals
          go_wp2_with (fail)
          go_roundw
          case rel =>
            first
              | exact ⟨j + 1, _, by omega, by go_num, HU.out.put HM.out ⟨⟨r, kk, lf, bb, p, sx⟩, ao7, cp7⟩ H7.out.2 H7.out.1 (Below.refl _ _), HDD.out _ _⟩
              | exact ⟨j + 1, _, by omega, by go_num, HU.out.put HM.out ⟨⟨r, kk, lf, bb, p, sx⟩, ao7, cp7⟩ H7.out.2 H7.out.1 ((Below.refl _ _).drew), HDD.out _ _⟩
              | exact ⟨j + 1, _, by omega, by go_num, (HU.out.put HM.out ⟨⟨r, kk, lf, bb, p, sx⟩, ao7, cp7⟩ H7.out.2 H7.out.1 (Below.refl _ _)).drew, HDD.out _ _⟩
          case measure => simp [intOf]; omega
      · obtain rfl : j = N.length := by omega
        have hMN : M.map (fun m => m.n) = N := by
          apply List.ext_getElem?
          intro i
          by_cases hi : i < N.length
          · exact HD.out i hi
          · rw [List.getElem?_eq_none (by rw [List.length_map, hTw.l]; omega), List.getElem?_eq_none (by omega)]
        have HMN := Lib.hid hMN
        obtain ⟨m, hm⟩ : ∃ m, M[y]? = some m := ⟨_, List.getElem?_eq_getElem (by rw [hTw.l]; exact hj)⟩
        have HM := Lib.hid hm
        have hb3' := HB3.out.trans (hTw.b.mono HB3.out.size)
        have HP0 := Lib.hid (HL.out.below hb3')
        have HBR := Lib.hid hb3'
        have cc := fun W (h : Prs W pa pc l) => tcopied_any pa pc l W h (by omega)
        unfold RowIs at cc
        have hu1 := hTw.u.at_ 1 _ rfl
        obtain ⟨g', eg, -, hna, hfz⟩ := hTw.r.at hm
        cases eg
        have NM := Lib.hid (And.intro hna hfz)
        have hgl := World.block_lt_of_cell? wr _ hna.c0
        have HG := Lib.hid (show gq < wr.heap.size from hgl)
        have R2' := Lib.hid (R2.out.keep hTw.b)
        clear hm hTw hna hfz hgl hMN hb3'
        go_upto_region 9 with (fail)
        go_region_with (go_at_call 31; (first | (with_reducible refine (cc _ HP0.out).mono ?_) | (with_reducible refine (cc _ (HP0.out.below (Below.refl _ _).drew)).mono ?_)); rintro e w7 ⟨ao7, cp7, rfl, hR7, hb7⟩; first | (have H7 := Lib.hid (show PRow w7 (fun j => j < wr.heap.size) (.slice ao7 l.length cp7) l ∧ Below wr.heap.size wr w7 from ⟨hR7, hb7⟩)) | (have H7 := Lib.hid (show PRow w7 (fun j => j < wr.heap.size) (.slice ao7 l.length cp7) l ∧ Below wr.heap.size wr w7 from ⟨hR7, (Below.refl _ _).drew.trans hb7⟩)); clear hR7 hb7; have hu2 := (HU.out.u.keep H7.out.2).at_ 1 _ rfl; obtain ⟨x0, x1, x2, x3, x4, x5, -⟩ := NM.out.1.keep H7.out.2; have fz := fun j => (Bk.keep ⟨HG.out, fun j v hj => (by cases hj), NM.out.2⟩ H7.out.2 : Bk _ gq []).fr j)
        all_goals
          have T9 := Lib.hid (show Tw (w.heap.size + 1) w3 q9 gq t N ((((((w7.setCell ⟨gq, y * 6, none⟩ (.bool false)).setCell ⟨gq, y * 6 + 1, none⟩ (.int .i64 0)).setCell ⟨gq, y * 6 + 2, none⟩ (.int .i64 0)).setCell ⟨gq, y * 6 + 3, none⟩ (.int .i64 0)).setCell ⟨gq, y * 6 + 4, none⟩ (.slice ao7 l.length cp7)).setCell ⟨gq, y * 6 + 5, none⟩ (.int .i64 st)) (M.set y ⟨lfn l st, ao7, cp7⟩) from
            HU.out.put HM.out ⟨lfn l st, ao7, cp7⟩ H7.out.2 H7.out.1 (Below.refl _ _))
          go_upto_region 10 with (fail)
          first | generalize ((((((World.setCell w7 ⟨gq, y * 6, none⟩ _).setCell _ _).setCell _ _).setCell _ _).setCell _ _).setCell _ _ : World) = X9 at T9 ⊢ | fail
          have hQl : (N.set y (lfn l st)).length = N.length := List.length_set ..
          have hQM : (M.set y ⟨lfn l st, ao7, cp7⟩).map (fun m => m.n) = N.set y (lfn l st) := by rw [List.map_set, HMN.out]
          have hNQ : Ns X9 (some ⟨gq, 0, none⟩) N.length (N.set y (lfn l st)) := by have h := T9.out.r.ns.2; rw [hQM] at h; exact h
          have hsQ : Small (N.set y (lfn l st)) := ⟨by rw [hQl]; exact hl1, fun n hn => by
            rcases List.mem_or_eq_of_mem_set hn with h | rfl
            · exact HS.out.2 n h
            · exact hll⟩
          have cmq := tmay_any t (some ⟨gq, 0, none⟩) N.length (N.set y (lfn l st)) X9 hNQ hsQ B hB
          unfold trv at cmq
          rw [hQl] at cmq
          have HNQ := Lib.hid hNQ
          have T10 := Lib.hid (R2.out.keep T9.out.b)
          have p0 := T9.out.u.at_ 0 _ rfl
          have p1 := T9.out.u.at_ 1 _ rfl
          have HQL := Lib.hid hQl
          have HB9 := Lib.hid (HB3.out.trans (T9.out.b.mono HB3.out.size))
          clear hQl hQM hNQ hsQ hu1 hu2 x0 x1 x2 x3 x4 x5 fz cc hB
          cases B
          · go_wp2_with (go_at_call 13; ((with_reducible refine cmq.mono ?_); clear cmq; rintro e w8 ⟨rfl, hb8⟩; have R8 := Lib.hid (T10.out.keep hb8); have HB8 := Lib.hid (bel2 HB9.out hb8); clear hb8; have g0 := R8.out.fr 0; have g1 := R8.out.fr 1; have m0 := R8.out.at_ 0 _ rfl; have m1 := R8.out.at_ 1 _ rfl))
            refine bodyPost_ret (v := .tuple #[.agg #[.int .i64 0, .slice none 0 0], .bool false]) (by simp [results, Try.results24, go_sem, m0, m1]) rfl ⟨none, 0, rfl, Ns.none _, ?_⟩
            repeat' (first | refine Below.setCell ?_ (by dsimp only; omega) _ | exact HB8.out)
          · go_wp2_with (go_at_call 13; ((with_reducible refine cmq.mono ?_); clear cmq; rintro e w8 ⟨rfl, hb8⟩; have R8 := Lib.hid (T10.out.keep hb8); have HB8 := Lib.hid (bel2 HB9.out hb8); have T8 := Lib.hid (T9.out.keep hb8); clear hb8; have y0 := T8.out.u.at_ 0 _ rfl; have y1 := T8.out.u.at_ 1 _ rfl; have g0 := R8.out.fr 0; have g1 := R8.out.fr 1; have m0 := R8.out.at_ 0 _ rfl; have m1 := R8.out.at_ 1 _ rfl))
            refine bodyPost_ret (v := .tuple #[.agg #[.int .i64 t, .slice (some ⟨gq, 0, none⟩) N.length N.length], .bool true]) (by simp [results, Try.results24, go_sem, m0, m1]) rfl ⟨some ⟨gq, 0, none⟩, N.length, by simp, ?_, ?_⟩
            · have hn := (T8.out.r.only (S := fun k => k = w.heap.size + 1) (W' := (w8.setCell ⟨w.heap.size + 1, 0, none⟩ (.int .i64 t)).setCell ⟨w.heap.size + 1, 1, none⟩ (.slice (some ⟨gq, 0, none⟩) N.length N.length)) (((Only.refl _ w8).setCell (S := fun k => k = w.heap.size + 1) (p := ⟨w.heap.size + 1, 0, none⟩) (.inl rfl) _).setCell (S := fun k => k = w.heap.size + 1) (p := ⟨w.heap.size + 1, 1, none⟩) (.inl rfl) _) (fun k hk => hk)).ns.2
              rw [List.map_set, HMN.out] at hn
              exact hn
            · repeat' (first | refine Below.setCell ?_ (by dsimp only; omega) _ | exact HB8.out)
theorem tset_any (t : Int) (a : Option Addr) (cap : Nat) (N : List Nd) (y : Int) (pa : Option Addr) (pc : Nat) (l : List Pr) (st : Int) (w : World) (hN : Ns w a cap N) (hsm : Small N) (hl : Prs w pa pc l) (hll : l.length ≤ 1100000)
    (r : Int) (Q : List Nd) (x : Bool) (h : SetO N t y l st r Q x) :
    Calls Try.prog 24 #[trv t a cap N, .int .i64 y, .slice pa l.length pc, .int .i64 st] w (SetIs w r Q x) := by
  rcases h with ⟨rfl, rfl, ht, j, n, rfl, hn, hr, rfl, hs⟩ | ⟨rfl, rfl, rfl, h⟩
  · exact tset_yes _ a cap N j n pa pc l st w hN hsm hl hll ht hn hr true ⟨fun _ => hs, fun _ => rfl⟩
  · rcases Classical.em (∃ s, Tr N s t) with ht | ht
    · rcases Classical.em (∃ (j : Nat) (n : Nd), y = j ∧ N[j]? = some n ∧ n.r = false) with ⟨j, n, rfl, hn, hr⟩ | h2
      · exact tset_yes t a cap N j n pa pc l st w hN hsm hl hll ht hn hr false ⟨fun h => (by cases h), fun hs => absurd ⟨ht, j, n, rfl, hn, hr, hs⟩ h⟩
      · refine tset_no t a cap N y pa pc l st w hN hsm (.inr ⟨ht, fun j n hy hn => ?_⟩)
        cases hr : n.r
        · exact absurd ⟨j, n, hy, hn, hr⟩ h2
        · rfl
    · exact tset_no t a cap N y pa pc l st w hN hsm (.inl (fun s hs => ht ⟨s, hs⟩))
end Go.Proofs.Ytpdliokpbnpppaa

namespace Go.Proofs.Ytpdliokpbnpppaa
open Go.RowKit
set_option linter.all false

end Go.Proofs.Ytpdliokpbnpppaa


namespace Go.Proofs.Ytpdliokpbnpppaa
open Go.RowKit
set_option linter.all false

set_option maxRecDepth 100000 in
set_option maxHeartbeats 6400000 in
theorem sraw_any (t u : Int) (a a2 : Option Addr) (cap cap2 : Nat) (N M : List Nd) (w : World) (h : Ns w a cap N) (h2 : Ns w a2 cap2 M) (hl : N.length ≤ 100000000000) (hl2 : M.length ≤ 100000000000) (B : Bool) (hB : B = true ↔ t = u ∧ N = M) :
    Calls Try.prog 36 #[trv t a cap N, trv u a2 cap2 M] w fun e w' => e = .returned (.bool B) ∧ Below w.heap.size w w' := by
  have b2 : Below w.heap.size w ((w.alloc (.cells #[.int .i64 t, .slice a N.length cap] 25)).alloc (.cells #[.int .i64 u, .slice a2 M.length cap2] 25)) := bel1 (al1 _) _
  unfold trv
  by_cases htu : t = u
  case neg =>
    obtain rfl : B = false := by
      cases B
      · rfl
      · exact absurd (hB.1 rfl).1 htu
    have e0 : (t != u) = true := by simpa using htu
    clear hB htu
    go_enter Try.func36, Try.ntmps36
    go_wp2_with (fail)
    go_ret
    exact ⟨rfl, b2⟩
  subst htu
  have e0 : (t != t) = false := by simp
  by_cases hlen : N.length = M.length
  case neg =>
    obtain rfl : B = false := by
      cases B
      · rfl
      · exact absurd (congrArg List.length (hB.1 rfl).2) hlen
    have hlen' : ((N.length : Int) != (M.length : Int)) = true := by simp; omega
    clear hlen hB
    go_enter Try.func36, Try.ntmps36
    go_wp2_with (fail)
    go_ret
    exact ⟨rfl, b2⟩
  have hB : B = true ↔ N = M := hB.trans ⟨fun h => h.2, fun h => ⟨rfl, h⟩⟩
  have HB := Lib.hid hB
  have HH := Lib.hid (h.keep b2)
  have HH2 := Lib.hid (h2.keep b2)
  have HLEN := Lib.hid hlen
  have hlen' : ((N.length : Int) != (M.length : Int)) = false := by simp [hlen]
  have G1 := Lib.hid (Bk.past (Bk.new w #[.int .i64 t, .slice a N.length cap] 25) (.cells #[.int .i64 t, .slice a2 N.length cap2] 25))
  have G2 := Lib.hid (show Bk ((w.alloc (.cells #[.int .i64 t, .slice a N.length cap] 25)).alloc (.cells #[.int .i64 t, .slice a2 N.length cap2] 25)) (w.heap.size + 1) [.int .i64 t, .slice a2 N.length cap2] from by
    have h := Bk.new (w.alloc (.cells #[.int .i64 t, .slice a N.length cap] 25)) #[.int .i64 t, .slice a2 N.length cap2] 25
    simp only [World.size_alloc] at h; exact h)
  rw [← hlen] at hlen' b2 HH HH2
  rw [← hlen]
  have HBW := Lib.hid b2
  clear h h2 hB hlen b2 hl2
  go_enter Try.func36, Try.ntmps36
  go_wp2_with (fail)
  obtain ⟨W, hW⟩ : ∃ W, ((w.alloc (.cells #[.int .i64 t, .slice a N.length cap] 25)).alloc (.cells #[.int .i64 t, .slice a2 N.length cap2] 25)) = W := ⟨_, rfl⟩
  rw [hW] at G1 G2 HH HH2 HBW ⊢
  clear hW
  go_loopw [23] (fun i wr => ∃ n : Nat, n ≤ N.length ∧ i = .int .i64 n ∧ (∀ j, j < n → N[j]? = M[j]?) ∧ Below W.heap.size W wr) (fun i _ => N.length - (intOf i).toNat)
  case atStart => exact ⟨0, Nat.zero_le _, rfl, fun j hj => absurd hj (Nat.not_lt_zero j), Below.refl _ _⟩
  case round =>
    obtain ⟨n, hn, rfl, hall, hb⟩ := hrel
    have HALL := Lib.hid hall
    have HBR := Lib.hid hb
    clear hall
    by_cases hlt : n < N.length
    · obtain ⟨x, hx⟩ : ∃ x, N[n]? = some x := ⟨_, List.getElem?_eq_getElem hlt⟩
      obtain ⟨y, hy⟩ : ∃ y, M[n]? = some y := ⟨_, List.getElem?_eq_getElem (by have := HLEN.out; omega)⟩
      obtain ⟨b, o, pa, pc, rfl, hx1⟩ := (HH.out.keep hb).2.2 n x hx
      obtain ⟨b2, o2, qa, qc, rfl, hy1⟩ := (HH2.out.keep hb).2.2 n y hy
      have HXY := Lib.hid (And.intro hx hy)
      have hn0 : (0 : Int) ≤ (n : Int) := by omega
      have hnl : (n : Int) < (N.length : Int) := by omega
      have k0 := (G1.out.keep hb).at_ 0 _ rfl
      have k1 := (G1.out.keep hb).at_ 1 _ rfl
      have l0 := (G2.out.keep hb).at_ 0 _ rfl
      have l1 := (G2.out.keep hb).at_ 1 _ rfl
      have N1 : Below wr.heap.size wr wr.drew := (Below.refl _ _).drew
      have c := fun B hB => rsamenode_any x y pa qa pc qc wr.drew (hx1.ps.below N1) (hy1.ps.below N1) B hB
      obtain ⟨e0, e1, e2, e3, e4, e5, -⟩ := hx1
      obtain ⟨d0, d1, d2, d3, d4, d5, -⟩ := hy1
      obtain ⟨r, k, l, bb, p, s⟩ := x
      obtain ⟨r', k', l', bb', p', s'⟩ := y
      unfold ndv at c
      dsimp only at e0 e1 e2 e3 e4 e5 d0 d1 d2 d3 d4 d5 c
      have HN2 := Lib.hid N1
      clear hx hy hb N1
      by_cases he : (⟨r, k, l, bb, p, s⟩ : Nd) = ⟨r', k', l', bb', p', s'⟩
      · have c' := c true ⟨fun _ => he, fun _ => rfl⟩
        have HE := Lib.hid he
        clear c he
        go_wp2_with (fail)
        go_region_with (go_at_call 62; ((with_reducible refine c'.mono ?_); clear c'; rintro e w2 ⟨rfl, hb2⟩))
        all_goals
          go_wp2_with (fail)
          go_roundw
          case rel => exact ⟨n + 1, by omega, by go_num, fun j hj => by
            rcases Nat.lt_succ_iff_lt_or_eq.1 hj with hj | rfl
            · exact HALL.out j hj
            · rw [HXY.out.1, HXY.out.2, HE.out], bel2 HBR.out (bel2 HN2.out hb2)⟩
          case measure => simp [intOf]; omega
      · have c' := c false ⟨fun h => (by cases h), fun h => absurd h he⟩
        obtain rfl : B = false := by
          cases B
          · rfl
          · have e := HB.out.1 rfl
            have h1 := HXY.out.1
            rw [e, HXY.out.2] at h1
            exact absurd (Option.some.inj h1).symm he
        clear c he
        go_wp2_with (fail)
        go_region_with (go_at_call 62; ((with_reducible refine c'.mono ?_); clear c'; rintro e w2 ⟨rfl, hb2⟩))
        all_goals
          go_wp2_with (fail)
          go_ret
          exact ⟨rfl, bel2 HBW.out (bel2 HBR.out (bel2 HN2.out hb2))⟩
    · obtain rfl : n = N.length := by omega
      obtain rfl : B = true := HB.out.2 (by
        apply List.ext_getElem?
        intro j
        rcases Nat.lt_or_ge j N.length with h | h
        · exact HALL.out j h
        · rw [List.getElem?_eq_none h, List.getElem?_eq_none (by have := HLEN.out; omega)])
      go_wp2_with (fail)
      go_ret
      exact ⟨rfl, bel2 HBW.out HBR.out⟩
end Go.Proofs.Ytpdliokpbnpppaa

namespace Go.Proofs.Ytpdliokpbnpppaa
open Go.RowKit
set_option linter.all false
attribute [local instance] Classical.propDecidable

set_option maxRecDepth 100000 in
set_option maxHeartbeats 6400000 in
theorem rsametree_gen (t u : Int) (a a2 : Option Addr) (cap cap2 : Nat) (N M : List Nd) (w : World) (h : Ns w a cap N) (h2 : Ns w a2 cap2 M) (x y : Bool) (P Q : List Nd) (hP : P.length ≤ 100000000000) (hQ : Q.length ≤ 100000000000) (cp : RP t a cap N x P) (cq : RP u a2 cap2 M y Q) (B : Bool) (hB : B = true ↔ x = true ∧ y = true ∧ P = Q) :
    Calls Try.prog 15 #[trv t a cap N, trv u a2 cap2 M] w fun e w' => e = .returned (.bool B) ∧ Below w.heap.size w w' := by
  have b2 : Below w.heap.size w ((w.alloc (.cells #[.int .i64 t, .slice a N.length cap] 25)).alloc (.cells #[.int .i64 u, .slice a2 M.length cap2] 25)) := bel1 (al1 _) _
  have c1 := cp _ (h.keep b2)
  have c2 := fun W hW => cq W (h2.keep hW)
  have G1 := Lib.hid (Bk.past (Bk.new w #[.int .i64 t, .slice a N.length cap] 25) (.cells #[.int .i64 u, .slice a2 M.length cap2] 25))
  have G2 := Lib.hid (show Bk ((w.alloc (.cells #[.int .i64 t, .slice a N.length cap] 25)).alloc (.cells #[.int .i64 u, .slice a2 M.length cap2] 25)) (w.heap.size + 1) [.int .i64 u, .slice a2 M.length cap2] from by
    have h := Bk.new (w.alloc (.cells #[.int .i64 t, .slice a N.length cap] 25)) #[.int .i64 u, .slice a2 M.length cap2] 25
    simp only [World.size_alloc] at h; exact h)
  have HBW := Lib.hid b2
  have cs := fun (W : World) ao c ao2 c2 (hp : Ns W ao c P) (hq : Ns W ao2 c2 Q) => sraw_any 0 0 ao ao2 c c2 P Q W hp hq hP hQ (decide (P = Q)) (by simp)
  obtain rfl : B = (x && y && decide (P = Q)) := by
    cases B <;> cases x <;> cases y <;> simp_all
  unfold PlB at c1 c2
  unfold trv at c1 c2 cs ⊢
  clear b2 h h2 hB cp cq
  cases x <;> cases y
  all_goals
    simp only [Bool.and_true, Bool.true_and, Bool.and_false, Bool.false_and]
    go_enter Try.func15, Try.ntmps15
    go_wp2_with (first
      | (go_at_call 17; ((with_reducible refine c1.mono ?_); clear c1; rintro e w3 ⟨ao, c, rfl, hn3, hb3⟩; have R1 := Lib.hid ((G1.out.keep hb3).past (.cells #[.int .i64 0, .slice ao P.length c] 25)); have R2 := Lib.hid ((G2.out.keep hb3).past (.cells #[.int .i64 0, .slice ao P.length c] 25)); have R3 := Lib.hid (Bk.new w3 #[.int .i64 0, .slice ao P.length c] 25); have HB3 := Lib.hid (bel1 (bel2 HBW.out hb3) (.cells #[.int .i64 0, .slice ao P.length c] 25)); have HN3 := Lib.hid (hn3.keep (al1 (.cells #[.int .i64 0, .slice ao P.length c] 25))); have l0 := R2.out.at_ 0 _ rfl; have l1 := R2.out.at_ 1 _ rfl; clear hb3 hn3))
      | (go_at_call 17; ((with_reducible refine (c2 _ HB3.out).mono ?_); clear c2 l0 l1; rintro e w4 ⟨ao2, cc2, rfl, hn4, hb4⟩; have R4 := Lib.hid ((R3.out.keep hb4).past (.cells #[.int .i64 0, .slice ao2 Q.length cc2] 25)); have HB4 := Lib.hid (bel1 (bel2 HB3.out hb4) (.cells #[.int .i64 0, .slice ao2 Q.length cc2] 25)); have HN4 := Lib.hid (hn4.keep (al1 (.cells #[.int .i64 0, .slice ao2 Q.length cc2] 25))); have HN5 := Lib.hid ((HN3.out.keep hb4).keep (al1 (.cells #[.int .i64 0, .slice ao2 Q.length cc2] 25))); have k0 := R4.out.at_ 0 _ rfl; have k1 := R4.out.at_ 1 _ rfl; clear hb4 hn4))
      | (go_at_call 36; ((with_reducible refine (cs _ _ _ _ _ HN5.out HN4.out).mono ?_); clear cs; rintro e w6 ⟨rfl, hb6⟩; have HB6 := Lib.hid (bel2 HB4.out hb6); clear hb6))
      | fail)
    go_ret
    first | exact ⟨rfl, HB6.out⟩ | exact ⟨rfl, HB4.out⟩ | exact ⟨by simp, HB6.out⟩
end Go.Proofs.Ytpdliokpbnpppaa

namespace Go.Proofs.Ytpdliokpbnpppaa
open Go.RowKit
set_option linter.all false

end Go.Proofs.Ytpdliokpbnpppaa


namespace Go.Proofs.Ytpdliokpbnpppaa
open Go.RowKit
set_option linter.all false

/-- Where all stats are nought and an update's stat falls below Low, a leaf is joined; all stats are nought. -/
theorem doT_joins {N : List Nd} {s : Sh} (hT : Tr N s 0) (h0 : ∀ i ∈ s.lvs, (nd N i).s = 0) {h cc u m c k hi v : Int} (hh : 1 ≤ h) (hu : 1 ≤ u) (ho : okOp c) (h3 : c ≤ 3) {Q : List Nd} (hD : DoT N s h 0 cc u m c k hi v Q) {s' : Sh} (hs' : Tr Q s' 0) :
    (1 < s.lvs.length → s'.lvs.length + 1 = s.lvs.length ∧ ∀ i ∈ s'.lvs, (nd Q i).s = 0) ∧ (s.lvs.length = 1 → s'.lvs.length = 1) := by
  rcases hD with ⟨_, d, hB⟩ | ⟨h1, _⟩ | ⟨h1, _⟩
  · have hdm := dn_lvs N k s
    have hlt := hT.hg.lt _ (lvs_pre _ _ hdm)
    have hst : nx cc u m (nd N (dn N k s).i).s 2 < 0 := by
      have := h0 _ hdm
      unfold nx chg hm
      simp only [show ¬ ((2 : Int) = 1) by decide, if_false, if_true]
      omega
    have hst2 := (nx_bd cc u m (nd N (dn N k s).i).s 2).1
    obtain ⟨g1, _⟩ := tr_update hT (k := k) (v := v) (st := nx cc u m (nd N (dn N k s).i).s 2) ho (nx_bd _ _ _ _ _).1 (nx_bd _ _ _ _ _).2
    obtain ⟨s2, a, b, e, hw⟩ := bnd_is ⟨g1, rfl, hdm⟩ hB
    obtain rfl := a.uniq hs'
    have e1 : nd (N.set (dn N k s).i ⟨false, 0, 0, 0, doP (nd N (dn N k s).i).p c k v, nx cc u m (nd N (dn N k s).i).s 2⟩) (dn N k s).i = ⟨false, 0, 0, 0, doP (nd N (dn N k s).i).p c k v, nx cc u m (nd N (dn N k s).i).s 2⟩ := nd_set hlt
    rw [e1, List.length_set] at hw
    dsimp only at hw
    have hlen : ∀ {L : List (List Pr × Int)}, s2.lvs.map (pst Q) = L → s2.lvs.length = L.length := fun e => by rw [← e, List.length_map]
    have ed : dc h 0 (nx cc u m (nd N (dn N k s).i).s 2) = 2 := by unfold dc hm; rw [if_neg (by omega), if_pos (by omega)]
    rw [ed] at hw
    rcases hw with ⟨w1, w2, w3⟩ | ⟨w1, w2, w3⟩ | ⟨T, w1, w2, w3, w4⟩
    · have w5 : s.lvs.length = 1 := by
        rcases w3 with w | ⟨w, _⟩ | ⟨_, w⟩
        · omega
        · omega
        · exact w
      exact ⟨fun h => by omega, fun _ => by rw [hlen w1, List.length_map]; exact w5⟩
    · omega
    · have := lvs_pos s2
      refine ⟨fun _ => ⟨w4, fun i hi' => ?_⟩, fun h => by omega⟩
      have hm : pst Q i ∈ T.lst := by rw [← w2]; exact List.mem_map_of_mem hi'
      rcases joinA_st (lvs_nodup hT.nd) hdm w1 _ hm with e0 | ⟨j, hj, hne, e0⟩
      · exact e0
      · have := congrArg Prod.snd e0
        simp only [pst] at this
        rw [this, nd_set_ne (fun e => hne e.symm)]
        exact h0 j hj
  · omega
  · omega
end Go.Proofs.Ytpdliokpbnpppaa


namespace Go.Proofs.Ytpdliokpbnpppaa
open Go.RowKit
set_option linter.all false

/-! ### Updates that press no leaf -/
theorem jn_step {N : List Nd} {s : Sh} {t : Int} {n j : Nat} (hT : Tr N s t) (hl : s.lvs.length = max 1 (n - j)) (h0 : j < n → ∀ i ∈ s.lvs, (nd N i).s = 0) (hj : j < n) {h cc u m k hi v : Int} (hh : 1 ≤ h) (hu : 1 ≤ u) {Q : List Nd} (hD : DoS N s h 0 cc u m ⟨3, k, hi, v⟩ Q) {s' : Sh} (hs' : Tr Q s' 0) :
    s'.lvs.length = max 1 (n - (j + 1)) ∧ (j + 1 < n → ∀ i ∈ s'.lvs, (nd Q i).s = 0) := by
  have ho : okOp (3 : Int) := ⟨by decide, by decide⟩
  obtain ⟨g1, g2, g3, g4⟩ := lay_tr hT
  rcases hD with ⟨_, hD⟩ | ⟨hno, _⟩
  · have h0' : ∀ i ∈ ((ab N s).sh 0).lvs, (nd (lay N s 0) i).s = 0 := fun i hi' => by
      have hm : pst (lay N s 0) i ∈ s.lvs.map (pst N) := by rw [← g4]; exact List.mem_map_of_mem hi'
      obtain ⟨j', hj', e⟩ := List.mem_map.1 hm
      have := congrArg Prod.snd e
      simp only [pst] at this
      rw [← this]; exact h0 hj j' hj'
    have hll : ((ab N s).sh 0).lvs.length = s.lvs.length := by rw [AT.sh_nl, ab_nl]
    obtain ⟨m1, m2⟩ := doT_joins g1 h0' hh hu ho (by decide) hD hs'
    rw [hll, hl] at m1 m2
    rcases Nat.lt_or_ge 1 (n - j) with h1 | h1
    · obtain ⟨e1, e2⟩ := m1 (by omega)
      exact ⟨by omega, fun _ => e2⟩
    · exact ⟨by rw [m2 (by omega)]; omega, fun h => by omega⟩
  · exact absurd ho hno
end Go.Proofs.Ytpdliokpbnpppaa


namespace Go.Proofs.Ytpdliokpbnpppaa
open Go.RowKit
set_option linter.all false

theorem stN_len {f : Int → Int} : ∀ {l : List Nat} {N : List Nd}, (stN f l N).length = N.length
  | [], N => rfl
  | j :: l, N => (stN_len (l := l)).trans (List.length_set ..)
end Go.Proofs.Ytpdliokpbnpppaa

