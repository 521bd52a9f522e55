/- osierref1.Without exactly: the pairs of other keys, in a row of its own. -/
import Derived.Test.YtbmlpdkbiipcmaaCtM
namespace Go.Proofs.Ytbmlpdkbiipcmaa
open Go.RowKit
set_option linter.all false

theorem cutL_take {l : List Pr} {n : Nat} {q : Pr} (k : Int) (hq : l[n]? = some q) : cutL (l.take (n + 1)) k = cutL (l.take n) k ++ cutL [q] k := by
  have e : l.take (n + 1) = l.take n ++ [q] := by rw [List.take_succ, hq]; rfl
  rw [e]; unfold cutL; rw [List.filter_append]
theorem cutL_one {x0 x1 k : Int} (h : (x0 != k) = true) : cutL [(x0, x1)] k = [(x0, x1)] := by unfold cutL; simp at h; simp [h]
theorem cutL_one_no {x0 x1 k : Int} (h : (x0 != k) = false) : cutL [(x0, x1)] k = [] := by unfold cutL; simp at h; simp [h]
/-- What the loop keeps. -/
structure OLoop (w wr : World) (out : Value) (ks : List Pr) : Prop where
  row : PRow wr (fun j => j < w.heap.size) out ks
  b : Below w.heap.size w wr
theorem OLoop.push {w wr w1 : World} {out out' : Value} {ks : List Pr} {q : Pr} (h : OLoop w wr out ks)
    (hR : PRow w1 (fun j => j < w.heap.size) out' (ks ++ [q])) (hO : Only (fun j => ¬ (j < w.heap.size)) wr w1) : OLoop w w1 out' (ks ++ [q]) :=
  ⟨hR, only_below (w0 := w) h.b hO (fun j hj => hj)⟩

set_option maxRecDepth 100000 in
set_option maxHeartbeats 6400000 in
theorem without_is (a : Option Addr) (cap : Nat) (l : List Pr) (k : Int) (w : World) (h : Prs w a cap l) (hl : l.length ≤ 1000) :
    Calls Try.prog 25 #[.slice a l.length cap, .int .i64 k] w (WithIs w (cutL l k)) := by
  have HH := Lib.hid h
  have hc1 := h.1
  have hc2 := h.2.1
  clear h
  unfold maxLen at hc2
  go_enter Try.func25, Try.ntmps25
  go_wp2_with (fail)
  go_loopw [5, 10] (fun out i wr => ∃ (n : Nat) (ao : Option Addr) (cp m : Nat) (ks : List Pr), n ≤ l.length ∧ i = .int .i64 n ∧ out = .slice ao m cp ∧ m = ks.length ∧ m ≤ n ∧ ks = cutL (l.take n) k ∧ OLoop w wr out ks) (fun _ i _ => l.length - (intOf i).toNat)
  case atStart => exact ⟨0, none, 0, 0, [], Nat.zero_le _, rfl, rfl, rfl, Nat.le_refl _, rfl, PRow.nil _ _, Below.refl _ _⟩
  case round =>
    obtain ⟨n, ao, cp, m, ks, hn, rfl, rfl, rfl, hm, hks, hK⟩ := hrel
    have HKS := Lib.hid hks
    clear hks
    by_cases hlt : n < l.length
    · obtain ⟨q, hq⟩ : ∃ q, l[n]? = some q := ⟨_, List.getElem?_eq_getElem hlt⟩
      obtain ⟨b, o, rfl, c0, c1⟩ := (HH.out.below hK.b).2.2 n q hq
      obtain ⟨x0, x1⟩ := q
      dsimp only at c0 c1
      have HT := Lib.hid (cutL_take k hq)
      clear hq
      have hal := (Below.refl wr.heap.size wr).alloc (Nat.le_refl _) (.cells #[.int .i64 x0, .int .i64 x1] 24)
      have HR := Lib.hid (hK.row.below hal)
      have HK2 : Hid (OLoop w (wr.alloc (.cells #[.int .i64 x0, .int .i64 x1] 24)) (.slice ao ks.length cp) ks) := Lib.hid ⟨HR.out, hK.b.alloc hK.b.size _⟩
      have hws := hK.b.size
      have HS : Hid (∀ j, j < w.heap.size → j < (wr.alloc (.cells #[.int .i64 x0, .int .i64 x1] 24)).heap.size) := Lib.hid (fun j hj => by simp; omega)
      clear hK hal
      by_cases hne : x0 = k
      · have hne' : (x0 != k) = false := by simp [hne]
        have HN := Lib.hid hne'
        clear hne
        go_wp2_with (fail)
        go_roundw
        case rel => exact ⟨n + 1, ao, cp, ks.length, ks, by omega, by go_num, rfl, rfl, by omega, by rw [HT.out, cutL_one_no HN.out, List.append_nil]; exact HKS.out, HK2.out⟩
        case measure => simp [intOf]; omega
      · have hne' : (x0 != k) = true := by simp [hne]
        have HN := Lib.hid hne'
        clear hne
        go_wp2_with (first | (at_builtin; refine wpList_push rfl (.tmp 18) (.tmp 20) rfl (fun j => j < w.heap.size) _ ks x0 x1 rfl HR.out HS.out _ rfl (by simp) (by omega) ?_; intro ao1 cp1 w3 hm1 hc1 hR1 hk1 hO1; have HF := Lib.hid (HK2.out.push (q := (x0, x1)) hR1 hO1); clear hR1 hk1 hO1))
        go_roundw
        case rel => exact ⟨n + 1, ao1, cp1, ks.length + 1, ks ++ [(x0, x1)], by omega, by go_num, rfl, by simp, by omega, by rw [HT.out, cutL_one HN.out, ← HKS.out], HF.out⟩
        case measure => simp [intOf]; omega
    · obtain rfl : n = l.length := by omega
      have eL : ks = cutL l k := by rw [HKS.out, List.take_of_length_le (Nat.le_refl _)]
      have HL := Lib.hid hK
      have HE := Lib.hid eL
      clear hK eL
      go_wp2_with (fail)
      go_ret
      rw [← HE.out]
      exact ⟨_, _, rfl, HL.out.row.prs rfl, HL.out.b⟩
end Go.Proofs.Ytbmlpdkbiipcmaa
