/- osierref1's functions on rows of pairs, without an arena: With, Without, Between, SamePairs, Find, MayPairs exactly; leaf.May the same. No condition: definitions and lemmas. -/
import Derived.Test.YtadfnbmogobopaaPrG
import Derived.LoopTactic
namespace Go.Proofs.Ytadfnbmogobopaa
open Go.RowKit
set_option linter.all false

/-- What the loop of With keeps. -/
structure WLoop (w : World) (k v : Int) (out : Value) (l' : List Pr) (wr : World) : Prop where
  row : PRow wr (fun j => j ≤ w.heap.size) out l'
  b0 : wr.cell? ⟨w.heap.size, 0, none⟩ = some (.int .i64 k)
  b1 : wr.cell? ⟨w.heap.size, 1, none⟩ = some (.int .i64 v)
  b : Below w.heap.size w wr
theorem WLoop.past {w wr : World} {k v : Int} {out : Value} {l' : List Pr} (h : WLoop w k v out l' wr) (o : Obj) : WLoop w k v out l' (wr.alloc o) :=
  ⟨h.row.below ((Below.refl _ _).alloc (Nat.le_refl _) o), cell_alloc h.b0 o, cell_alloc h.b1 o, h.b.trans (((Below.refl wr.heap.size wr).alloc (Nat.le_refl _) o).mono h.b.size)⟩
/-- Behind an append. -/
theorem WLoop.push {w wr w1 : World} {k v : Int} {out out' : Value} {l' l2 : List Pr} {c : Nat} (h : WLoop w k v out l' wr)
    (hR : PRow w1 (fun j => j ≤ w.heap.size ∨ j = c) out' l2) (hc : ∀ q u, (q.block ≤ w.heap.size ∨ q.block = c) → wr.cell? q = some u → w1.cell? q = some u) (hO : Only (fun j => ¬ (j ≤ w.heap.size ∨ j = c)) wr w1) : WLoop w k v out' l2 w1 :=
  ⟨⟨hR.row, fun j hj hs => hR.av j hj (.inl hs)⟩, hc _ _ (.inl (Nat.le_refl _)) h.b0, hc _ _ (.inl (Nat.le_refl _)) h.b1, only_below (w0 := w) h.b hO (fun j hj => .inl (by omega))⟩

/-- What With tells. -/
def WithIs (w : World) (L : List Pr) (e : Ending) (w' : World) : Prop :=
  ∃ ao cp, e = .returned (.slice ao L.length cp) ∧ PRow w' (fun j => j < w.heap.size) (.slice ao L.length cp) L ∧ Below w.heap.size w w'
set_option maxRecDepth 100000 in
set_option maxHeartbeats 6400000 in
theorem with_is (a : Option Addr) (cap : Nat) (l : List Pr) (k v : Int) (w : World) (h : Prs w a cap l) (hl : l.length ≤ 2000000) :
    Calls Try.prog 23 #[.slice a l.length cap, .agg #[.int .i64 k, .int .i64 v]] w (fun e w' => WithIs w (withL l k v) e w' ∧ (withL l k v).length ≤ l.length + 1) := by
  have HH := Lib.hid h
  have hc1 := h.1
  have hc2 := h.2.1
  clear h
  unfold maxLen at hc2
  have b0 : Below w.heap.size w (w.alloc (.cells #[.int .i64 k, .int .i64 v] 32)) := (Below.refl _ _).alloc (Nat.le_refl _) _
  go_enter Try.func23, Try.ntmps23
  go_wp2_with (fail)
  go_loopw [5, 6, 11] (fun out done i wr => ∃ (n : Nat) (d : Bool) (ao : Option Addr) (cp m : Nat) (l' : List Pr), n ≤ l.length ∧ i = .int .i64 n ∧ done = .bool d ∧ out = .slice ao m cp ∧ m = l'.length ∧ m ≤ n + d.toNat ∧ wAcc k v l n = (l', d) ∧ WLoop w k v out l' wr) (fun _ _ i _ => l.length - (intOf i).toNat)
  case atStart => exact ⟨0, false, none, 0, 0, [], Nat.zero_le _, rfl, rfl, rfl, rfl, Nat.le_refl _, rfl, ⟨PRow.nil _ _, by simp, by simp, b0⟩⟩
  case round =>
    obtain ⟨n, d, ao, cp, m, l', hn, rfl, rfl, rfl, rfl, hln, hacc, hW⟩ := hrel
    have HA := Lib.hid hacc
    clear hacc
    have hlw : w.heap.size < wr.heap.size := World.block_lt_of_cell? wr _ hW.b0
    obtain ⟨_, _, hcp1, hcp2⟩ := hW.row.form
    have hdn : d.toNat ≤ 1 := by cases d <;> simp
    by_cases hlt : n < l.length
    · obtain ⟨q, hq⟩ : ∃ q, l[n]? = some q := ⟨_, List.getElem?_eq_getElem hlt⟩
      obtain ⟨b, o, rfl, c0, c1⟩ := (HH.out.below hW.b).2.2.1 n q hq
      obtain ⟨x0, x1⟩ := q
      dsimp only at c0 c1
      have HQ0 : Hid (l.getD n (0, 0) = (x0, x1)) := Lib.hid (by simp [List.getD, hq])
      clear hq
      have a0 := cell_alloc hW.b0 (.cells #[.int .i64 x0, .int .i64 x1] 32)
      have a1 := cell_alloc hW.b1 (.cells #[.int .i64 x0, .int .i64 x1] 32)
      have e0 : (wr.alloc (.cells #[.int .i64 x0, .int .i64 x1] 32)).cell? ⟨wr.heap.size, 0, none⟩ = some (.int .i64 x0) := by simp
      have e1 : (wr.alloc (.cells #[.int .i64 x0, .int .i64 x1] 32)).cell? ⟨wr.heap.size, 1, none⟩ = some (.int .i64 x1) := by simp
      have HP := Lib.hid (hW.row.more (.cells #[.int .i64 x0, .int .i64 x1] 32))
      have hlen : l'.length ≤ 2000001 := by omega
      have HS : Hid (∀ j, (j ≤ w.heap.size ∨ j = wr.heap.size) → j < (wr.alloc (.cells #[.int .i64 x0, .int .i64 x1] 32)).heap.size) := Lib.hid (fun j hj => by simp; omega)
      have HL := Lib.hid (hW.past (.cells #[.int .i64 x0, .int .i64 x1] 32))
      clear hW
      cases d
      · simp only [Bool.toNat_false] at hdn
        by_cases hge : k ≤ x0
        · have HG := Lib.hid hge
          by_cases hne : x0 = k
          · have hne' : (x0 != k) = false := by simp [hne]
            have HN := Lib.hid hne'
            clear hne
            go_wp2_with (first | (at_builtin; refine wpList_push rfl (.tmp 24) (.tmp 26) rfl (fun j => j ≤ w.heap.size ∨ j = wr.heap.size) _ l' k v rfl HP.out HS.out _ rfl (by simp) (by omega) ?_; intro ao1 cp1 w1 hm1 hc1 hR1 hk1 hO1; have HQ := Lib.hid (HL.out.push hR1 hk1 hO1); have HR1 := Lib.hid hR1; have y0 := hk1 ⟨wr.heap.size, 0, none⟩ _ (.inr rfl) e0; have y1 := hk1 ⟨wr.heap.size, 1, none⟩ _ (.inr rfl) e1; have a0 := HQ.out.b0; have a1 := HQ.out.b1; have hs1 := hO1.size; clear hR1 hk1 hO1; unfold maxLen at hm1))
            go_roundw
            case rel => exact ⟨n + 1, true, _, _, _, (l' ++ [(k, v)]), by omega, by go_num, rfl, rfl, by simp, by simp at hln ⊢; omega, (wAcc_next HA.out HQ0.out).trans (wS_ge_eq HG.out HN.out), HQ.out⟩
            case measure => simp [intOf]; omega
          · have hne' : (x0 != k) = true := by simp [hne]
            have HN := Lib.hid hne'
            clear hne
            go_wp2_with (first | (at_builtin; refine wpList_push rfl (.tmp 24) (.tmp 26) rfl (fun j => j ≤ w.heap.size ∨ j = wr.heap.size) _ l' k v rfl HP.out HS.out _ rfl (by simp) (by omega) ?_; intro ao1 cp1 w1 hm1 hc1 hR1 hk1 hO1; have HQ := Lib.hid (HL.out.push hR1 hk1 hO1); have HR1 := Lib.hid hR1; have y0 := hk1 ⟨wr.heap.size, 0, none⟩ _ (.inr rfl) e0; have y1 := hk1 ⟨wr.heap.size, 1, none⟩ _ (.inr rfl) e1; have a0 := HQ.out.b0; have a1 := HQ.out.b1; have hs1 := hO1.size; clear hR1 hk1 hO1; unfold maxLen at hm1) | (at_builtin; refine wpList_push rfl (.tmp 33) (.tmp 35) rfl (fun j => j ≤ w.heap.size ∨ j = wr.heap.size) _ (l' ++ [(k, v)]) x0 x1 rfl HR1.out (fun j hj => by have := HS.out j hj; omega) _ rfl (by simp) (by simp; omega) ?_; intro ao2 cp2 w2 hm2 hc2 hR2 hk2 hO2; have HF := Lib.hid (HQ.out.push hR2 hk2 hO2); clear hR2 hk2 hO2; unfold maxLen at hm2))
            go_roundw
            case rel => exact ⟨n + 1, true, _, _, _, ((l' ++ [(k, v)]) ++ [(x0, x1)]), by omega, by go_num, rfl, rfl, by simp, by simp at hln ⊢; omega, (wAcc_next HA.out HQ0.out).trans (wS_ge_ne HG.out HN.out), by have := HF.out; rw [List.length_append] at this; exact this⟩
            case measure => simp [intOf]; omega
        · have hge' : x0 < k := by omega
          have HG := Lib.hid hge'
          have hne' : (x0 != k) = true := by simp; omega
          clear hge
          go_wp2_with (first | (at_builtin; refine wpList_push rfl (.tmp 33) (.tmp 35) rfl (fun j => j ≤ w.heap.size ∨ j = wr.heap.size) _ l' x0 x1 rfl HP.out HS.out _ rfl (by simp) (by omega) ?_; intro ao2 cp2 w2 hm2 hc2 hR2 hk2 hO2; have HF := Lib.hid (HL.out.push hR2 hk2 hO2); clear hR2 hk2 hO2; unfold maxLen at hm2))
          go_roundw
          case rel => exact ⟨n + 1, false, _, _, _, (l' ++ [(x0, x1)]), by omega, by go_num, rfl, rfl, by simp, by simp at hln ⊢; omega, (wAcc_next HA.out HQ0.out).trans (wS_lt HG.out), HF.out⟩
          case measure => simp [intOf]; omega
      · by_cases hne : x0 = k
        · have hne' : (x0 != k) = false := by simp [hne]
          have HN := Lib.hid hne'
          clear hne
          go_wp2_with (fail)
          go_roundw
          case rel => exact ⟨n + 1, true, _, _, _, l', by omega, by go_num, rfl, rfl, rfl, by simp at hln ⊢; omega, (wAcc_next HA.out HQ0.out).trans (wS_t_eq HN.out), HL.out⟩
          case measure => simp [intOf]; omega
        · have hne' : (x0 != k) = true := by simp [hne]
          have HN := Lib.hid hne'
          clear hne
          go_wp2_with (first | (at_builtin; refine wpList_push rfl (.tmp 33) (.tmp 35) rfl (fun j => j ≤ w.heap.size ∨ j = wr.heap.size) _ l' x0 x1 rfl HP.out HS.out _ rfl (by simp) (by omega) ?_; intro ao2 cp2 w2 hm2 hc2 hR2 hk2 hO2; have HF := Lib.hid (HL.out.push hR2 hk2 hO2); clear hR2 hk2 hO2; unfold maxLen at hm2))
          go_roundw
          case rel => exact ⟨n + 1, true, _, _, _, (l' ++ [(x0, x1)]), by omega, by go_num, rfl, rfl, by simp, by simp at hln ⊢; omega, (wAcc_next HA.out HQ0.out).trans (wS_t_ne HN.out), HF.out⟩
          case measure => simp [intOf]; omega
    · obtain rfl : n = l.length := by omega
      have HL := Lib.hid hW
      have b0 := hW.b0
      have b1 := hW.b1
      have HS : Hid (∀ j, (j ≤ w.heap.size ∨ j = w.heap.size) → j < wr.heap.size) := Lib.hid (fun j hj => by omega)
      have HP : Hid (PRow wr (fun j => j ≤ w.heap.size ∨ j = w.heap.size) (.slice ao l'.length cp) l') := Lib.hid (hW.row.sub (fun j _ hj => by omega))
      clear hW
      cases d
      · go_wp2_with (at_builtin; refine wpList_push rfl (.tmp 40) (.tmp 42) rfl (fun j => j ≤ w.heap.size ∨ j = w.heap.size) _ l' k v rfl HP.out HS.out _ rfl (by simp) (by omega) ?_; intro ao1 cp1 w1 hm1 hc1 hR1 hk1 hO1; have HQ := Lib.hid (HL.out.push hR1 hk1 hO1); clear hR1 hk1 hO1; unfold maxLen at hm1)
        go_ret
        have eL : withL l k v = l' ++ [(k, v)] := by unfold withL; rw [HA.out]; rfl
        rw [eL]
        exact ⟨⟨ao1, cp1, by simp, by have h9 := HQ.out.row.sub (S' := fun j => j < w.heap.size) (fun j _ hj => Nat.le_of_lt hj); simpa using h9, HQ.out.b⟩, by simp at hln ⊢; omega⟩
      · go_wp2_with (fail)
        go_ret
        have eL : withL l k v = l' := by unfold withL; rw [HA.out]; rfl
        rw [eL]
        exact ⟨⟨_, _, rfl, HL.out.row.sub (fun j _ hj => Nat.le_of_lt hj), HL.out.b⟩, by simp at hln; omega⟩

def cutL (l : List Pr) (k : Int) : List Pr := l.filter (fun z => z.1 != k)
theorem cutL_mem {l : List Pr} {k : Int} {z : Pr} : z ∈ cutL l k ↔ z ∈ l ∧ z.1 ≠ k := by unfold cutL; rw [List.mem_filter]; simp
theorem cutL_nil (k : Int) : cutL [] k = [] := rfl
theorem cutL_srt {l : List Pr} (h : Srt l) (k : Int) : Srt (cutL l k) := h.filter _
theorem cutL_len (l : List Pr) (k : Int) : (cutL l k).length ≤ l.length := List.length_filter_le _ _
theorem cutL_all {l : List Pr} {k : Int} (h : ∀ z ∈ l, z.1 ≠ k) : cutL l k = l := List.filter_eq_self.2 (fun z hz => by simpa using h z hz)
theorem cutL_take {l : List Pr} {n : Nat} {q : Pr} (k : Int) (hq : l[n]? = some q) : cutL (l.take (n + 1)) k = cutL (l.take n) k ++ cutL [q] k := by
  have e : l.take (n + 1) = l.take n ++ [q] := by rw [List.take_succ, hq]; rfl
  rw [e]; unfold cutL; rw [List.filter_append]
theorem cutL_one {x0 x1 k : Int} (h : (x0 != k) = true) : cutL [(x0, x1)] k = [(x0, x1)] := by unfold cutL; simp at h; simp [h]
theorem cutL_one_no {x0 x1 k : Int} (h : (x0 != k) = false) : cutL [(x0, x1)] k = [] := by unfold cutL; simp at h; simp [h]
/-- What the loop keeps. -/
structure OLoop (w wr : World) (out : Value) (ks : List Pr) : Prop where
  row : PRow wr (fun j => j < w.heap.size) out ks
  b : Below w.heap.size w wr
theorem OLoop.push {w wr w1 : World} {out out' : Value} {ks : List Pr} {q : Pr} (h : OLoop w wr out ks)
    (hR : PRow w1 (fun j => j < w.heap.size) out' (ks ++ [q])) (hO : Only (fun j => ¬ (j < w.heap.size)) wr w1) : OLoop w w1 out' (ks ++ [q]) :=
  ⟨hR, only_below (w0 := w) h.b hO (fun j hj => hj)⟩

set_option maxRecDepth 100000 in
set_option maxHeartbeats 6400000 in
theorem without_is (a : Option Addr) (cap : Nat) (l : List Pr) (k : Int) (w : World) (h : Prs w a cap l) (hl : l.length ≤ 2000000) :
    Calls Try.prog 24 #[.slice a l.length cap, .int .i64 k] w (WithIs w (cutL l k)) := by
  have HH := Lib.hid h
  have hc1 := h.1
  have hc2 := h.2.1
  clear h
  unfold maxLen at hc2
  go_enter Try.func24, Try.ntmps24
  go_wp2_with (fail)
  go_loopw [5, 10] (fun out i wr => ∃ (n : Nat) (ao : Option Addr) (cp m : Nat) (ks : List Pr), n ≤ l.length ∧ i = .int .i64 n ∧ out = .slice ao m cp ∧ m = ks.length ∧ m ≤ n ∧ ks = cutL (l.take n) k ∧ OLoop w wr out ks) (fun _ i _ => l.length - (intOf i).toNat)
  case atStart => exact ⟨0, none, 0, 0, [], Nat.zero_le _, rfl, rfl, rfl, Nat.le_refl _, rfl, PRow.nil _ _, Below.refl _ _⟩
  case round =>
    obtain ⟨n, ao, cp, m, ks, hn, rfl, rfl, rfl, hm, hks, hK⟩ := hrel
    have HKS := Lib.hid hks
    clear hks
    by_cases hlt : n < l.length
    · obtain ⟨q, hq⟩ : ∃ q, l[n]? = some q := ⟨_, List.getElem?_eq_getElem hlt⟩
      obtain ⟨b, o, rfl, c0, c1⟩ := (HH.out.below hK.b).2.2.1 n q hq
      obtain ⟨x0, x1⟩ := q
      dsimp only at c0 c1
      have HT := Lib.hid (cutL_take k hq)
      clear hq
      have hal := (Below.refl wr.heap.size wr).alloc (Nat.le_refl _) (.cells #[.int .i64 x0, .int .i64 x1] 32)
      have HR := Lib.hid (hK.row.below hal)
      have HK2 : Hid (OLoop w (wr.alloc (.cells #[.int .i64 x0, .int .i64 x1] 32)) (.slice ao ks.length cp) ks) := Lib.hid ⟨HR.out, hK.b.alloc hK.b.size _⟩
      have hws := hK.b.size
      have HS : Hid (∀ j, j < w.heap.size → j < (wr.alloc (.cells #[.int .i64 x0, .int .i64 x1] 32)).heap.size) := Lib.hid (fun j hj => by simp; omega)
      clear hK hal
      by_cases hne : x0 = k
      · have hne' : (x0 != k) = false := by simp [hne]
        have HN := Lib.hid hne'
        clear hne
        go_wp2_with (fail)
        go_roundw
        case rel => exact ⟨n + 1, ao, cp, ks.length, ks, by omega, by go_num, rfl, rfl, by omega, by rw [HT.out, cutL_one_no HN.out, List.append_nil]; exact HKS.out, HK2.out⟩
        case measure => simp [intOf]; omega
      · have hne' : (x0 != k) = true := by simp [hne]
        have HN := Lib.hid hne'
        clear hne
        go_wp2_with (first | (at_builtin; refine wpList_push rfl (.tmp 18) (.tmp 20) rfl (fun j => j < w.heap.size) _ ks x0 x1 rfl HR.out HS.out _ rfl (by simp) (by omega) ?_; intro ao1 cp1 w3 hm1 hc1 hR1 hk1 hO1; have HF := Lib.hid (HK2.out.push (q := (x0, x1)) hR1 hO1); clear hR1 hk1 hO1))
        go_roundw
        case rel => exact ⟨n + 1, ao1, cp1, ks.length + 1, ks ++ [(x0, x1)], by omega, by go_num, rfl, by simp, by omega, by rw [HT.out, cutL_one HN.out, ← HKS.out], HF.out⟩
        case measure => simp [intOf]; omega
    · obtain rfl : n = l.length := by omega
      have eL : ks = cutL l k := by rw [HKS.out, List.take_of_length_le (Nat.le_refl _)]
      have HL := Lib.hid hK
      have HE := Lib.hid eL
      clear hK eL
      go_wp2_with (fail)
      go_ret
      rw [← HE.out]
      exact ⟨_, _, rfl, HL.out.row, HL.out.b⟩
def rngL (l : List Pr) (lo hi : Int) : List Pr := l.filter (fun z => decide (lo ≤ z.1) && decide (z.1 ≤ hi))
theorem rngL_nil (lo hi : Int) : rngL [] lo hi = [] := rfl
theorem rngL_mem {l : List Pr} {lo hi : Int} {z : Pr} : z ∈ rngL l lo hi ↔ z ∈ l ∧ lo ≤ z.1 ∧ z.1 ≤ hi := by
  unfold rngL
  rw [List.mem_filter, Bool.and_eq_true, decide_eq_true_iff, decide_eq_true_iff]
theorem rngL_srt {l : List Pr} (h : Srt l) (lo hi : Int) : Srt (rngL l lo hi) := h.filter _
theorem rngL_len (l : List Pr) (lo hi : Int) : (rngL l lo hi).length ≤ l.length := List.length_filter_le _ _
theorem rngL_app (A B : List Pr) (lo hi : Int) : rngL (A ++ B) lo hi = rngL A lo hi ++ rngL B lo hi := List.filter_append ..
theorem rngL_in {q : Pr} {lo hi : Int} (h1 : lo ≤ q.1) (h2 : q.1 ≤ hi) (B : List Pr) : rngL (q :: B) lo hi = q :: rngL B lo hi := List.filter_cons_of_pos (by simp; omega)
theorem rngL_out {q : Pr} {lo hi : Int} (h : ¬ (lo ≤ q.1 ∧ q.1 ≤ hi)) (B : List Pr) : rngL (q :: B) lo hi = rngL B lo hi := List.filter_cons_of_neg (by simp; omega)
theorem rngL_none {l : List Pr} {lo hi : Int} (h : ∀ z ∈ l, ¬ (lo ≤ z.1 ∧ z.1 ≤ hi)) : rngL l lo hi = [] :=
  List.filter_eq_nil_iff.2 (fun z hz => by have := h z hz; simp; omega)
theorem rngL_all {l : List Pr} {lo hi : Int} (h : ∀ z ∈ l, lo ≤ z.1 ∧ z.1 ≤ hi) : rngL l lo hi = l :=
  List.filter_eq_self.2 (fun z hz => by have := h z hz; simp; omega)
theorem rngL_wrong {l : List Pr} {lo hi : Int} (h : hi < lo) : rngL l lo hi = [] := rngL_none (fun z _ hz => by omega)

theorem rngL_take {l : List Pr} {n : Nat} {q : Pr} (lo hi : Int) (hq : l[n]? = some q) : rngL (l.take (n + 1)) lo hi = rngL (l.take n) lo hi ++ rngL [q] lo hi := by
  have e : l.take (n + 1) = l.take n ++ [q] := by rw [List.take_succ, hq]; rfl
  rw [e, rngL_app]

/-- What the loop keeps. -/
structure BLoop (w wr : World) (out : Value) (ks : List Pr) : Prop where
  row : PRow wr (fun j => j < w.heap.size) out ks
  b : Below w.heap.size w wr
theorem BLoop.push {w wr w1 : World} {out out' : Value} {ks : List Pr} {q : Pr} (h : BLoop w wr out ks)
    (hR : PRow w1 (fun j => j < w.heap.size) out' (ks ++ [q])) (hO : Only (fun j => ¬ (j < w.heap.size)) wr w1) : BLoop w w1 out' (ks ++ [q]) :=
  ⟨hR, h.b.trans (hO.below (fun i hi => Nat.le_of_not_lt hi) h.b.size)⟩

set_option maxRecDepth 100000 in
set_option maxHeartbeats 6400000 in
theorem betw_any (a : Option Addr) (cap : Nat) (l : List Pr) (lo hi : Int) (w : World) (h : Prs w a cap l) (hl : l.length ≤ 2000000) :
    Calls Try.prog 25 #[.slice a l.length cap, .int .i64 lo, .int .i64 hi] w fun e w' => ∃ ao cp, e = .returned (.slice ao (rngL l lo hi).length cp) ∧ PRow w' (fun j => j < w.heap.size) (.slice ao (rngL l lo hi).length cp) (rngL l lo hi) ∧ Below w.heap.size w w' := by
  have HH := Lib.hid h
  have hc1 := h.1
  have hc2 := h.2.1
  clear h
  unfold maxLen at hc2
  go_enter Try.func25, Try.ntmps25
  go_wp2_with (fail)
  go_loopw [7, 12] (fun out i wr => ∃ (n : Nat) (ao : Option Addr) (cp m : Nat) (ks : List Pr), n ≤ l.length ∧ i = .int .i64 n ∧ out = .slice ao m cp ∧ m = ks.length ∧ m ≤ n ∧ ks = rngL (l.take n) lo hi ∧ BLoop w wr out ks) (fun _ i _ => l.length - (intOf i).toNat)
  case atStart => exact ⟨0, none, 0, 0, [], Nat.zero_le _, rfl, rfl, rfl, Nat.le_refl _, rfl, PRow.nil _ _, Below.refl _ _⟩
  case round =>
    obtain ⟨n, ao, cp, m, ks, hn, rfl, rfl, rfl, hm, hks, hK⟩ := hrel
    have HKS := Lib.hid hks
    clear hks
    by_cases hlt : n < l.length
    · obtain ⟨q, hq⟩ : ∃ q, l[n]? = some q := ⟨_, List.getElem?_eq_getElem hlt⟩
      obtain ⟨b, o, rfl, c0, c1⟩ := (HH.out.below hK.b).2.2.1 n q hq
      obtain ⟨x0, x1⟩ := q
      dsimp only at c0 c1
      have HT := Lib.hid (rngL_take lo hi hq)
      clear hq
      have hal := (Below.refl wr.heap.size wr).alloc (Nat.le_refl _) (.cells #[.int .i64 x0, .int .i64 x1] 32)
      have HR := Lib.hid (hK.row.below hal)
      have HK2 : Hid (BLoop w (wr.alloc (.cells #[.int .i64 x0, .int .i64 x1] 32)) (.slice ao ks.length cp) ks) := Lib.hid ⟨HR.out, hK.b.alloc hK.b.size _⟩
      have hws := hK.b.size
      have HS : Hid (∀ j, j < w.heap.size → j < (wr.alloc (.cells #[.int .i64 x0, .int .i64 x1] 32)).heap.size) := Lib.hid (fun j hj => by simp; omega)
      clear hK hal
      by_cases h1 : lo ≤ x0
      · have b1 : decide (lo ≤ x0) = true := decide_eq_true h1
        by_cases h2 : x0 ≤ hi
        · have b2 : decide (x0 ≤ hi) = true := decide_eq_true h2
          have HN := Lib.hid (rngL_in (q := (x0, x1)) h1 h2 [])
          clear h1 h2
          go_wp2_with (first | (at_builtin; refine wpList_push rfl (.tmp 26) (.tmp 28) rfl (fun j => j < w.heap.size) _ ks x0 x1 rfl HR.out HS.out _ rfl (by simp) (by omega) ?_; intro ao1 cp1 w3 hm1 hc1 hR1 hk1 hO1; have HF := Lib.hid (HK2.out.push (q := (x0, x1)) hR1 hO1); clear hR1 hk1 hO1))
          go_roundw
          case rel => exact ⟨n + 1, ao1, cp1, ks.length + 1, ks ++ [(x0, x1)], by omega, by go_num, rfl, by simp, by omega, by rw [HT.out, HN.out, rngL_nil, ← HKS.out], HF.out⟩
          case measure => simp [intOf]; omega
        · have b2 : decide (x0 ≤ hi) = false := decide_eq_false h2
          have HN := Lib.hid (rngL_out (q := (x0, x1)) (lo := lo) (hi := hi) (fun h => h2 h.2) [])
          clear h1 h2
          go_wp2_with (fail)
          go_roundw
          case rel => exact ⟨n + 1, ao, cp, ks.length, ks, by omega, by go_num, rfl, rfl, by omega, by rw [HT.out, HN.out, rngL_nil, List.append_nil]; exact HKS.out, HK2.out⟩
          case measure => simp [intOf]; omega
      · have b1 : decide (lo ≤ x0) = false := decide_eq_false h1
        have HN := Lib.hid (rngL_out (q := (x0, x1)) (lo := lo) (hi := hi) (fun h => h1 h.1) [])
        clear h1
        go_wp2_with (fail)
        go_roundw
        case rel => exact ⟨n + 1, ao, cp, ks.length, ks, by omega, by go_num, rfl, rfl, by omega, by rw [HT.out, HN.out, rngL_nil, List.append_nil]; exact HKS.out, HK2.out⟩
        case measure => simp [intOf]; omega
    · obtain rfl : n = l.length := by omega
      have eL : ks = rngL l lo hi := by rw [HKS.out, List.take_of_length_le (Nat.le_refl _)]
      have HL := Lib.hid hK
      have HE := Lib.hid eL
      clear hK eL
      go_wp2_with (fail)
      go_ret
      rw [← HE.out]
      exact ⟨_, _, rfl, HL.out.row, HL.out.b⟩

/-! ### Find -/

/-- How many pairs stand ahead of the first one of that key. -/
def ixN (l : List Pr) (k : Int) : Nat := (l.takeWhile (fun z => z.1 != k)).length
/-- Its place (-1: there is none). -/
def ixL (l : List Pr) (k : Int) : Int := if ixN l k < l.length then (ixN l k : Int) else -1
theorem ixL_at {l : List Pr} {n : Nat} {k v : Int} (hq : l[n]? = some (k, v)) (hno : ∀ x ∈ l.take n, x.1 ≠ k) : ixL l k = n := by
  obtain ⟨hlt, he⟩ := List.getElem?_eq_some_iff.1 hq
  have e : l = l.take n ++ (k, v) :: l.drop (n + 1) := by
    rw [← he, List.getElem_cons_drop, List.take_append_drop]
  have hN : ixN l k = n := by
    unfold ixN
    rw [e, List.takeWhile_append_of_pos (by intro x hx; have := hno x hx; simpa using this), List.takeWhile_cons_of_neg (by simp), List.append_nil, List.length_take]
    omega
  unfold ixL
  rw [hN, if_pos hlt]
theorem ixL_none {l : List Pr} {k : Int} (hno : ∀ x ∈ l, x.1 ≠ k) : ixL l k = -1 := by
  have hN : ixN l k = l.length := by
    unfold ixN
    have := List.takeWhile_append_of_pos (p := fun z : Pr => z.1 != k) (l₁ := l) (l₂ := []) (by intro x hx; have := hno x hx; simpa using this)
    rw [List.append_nil] at this
    rw [this]; simp
  unfold ixL
  rw [hN, if_neg (Nat.lt_irrefl _)]

set_option maxRecDepth 100000 in
set_option maxHeartbeats 6400000 in
theorem rfind_any (a : Option Addr) (cap : Nat) (l : List Pr) (key : Int) (w : World) (h : Prs w a cap l) :
    Calls Try.prog 22 #[.slice a l.length cap, .int .i64 key] w fun e w' => e = .returned (.int .i64 (ixL l key)) ∧ Below w.heap.size w w' := by
  have HH := Lib.hid h
  have hc1 := h.1
  have hc2 := h.2.1
  clear h
  unfold maxLen at hc2
  go_enter Try.func22, Try.ntmps22
  go_wp2_with (fail)
  go_loopw [9] (fun i wr => ∃ n : Nat, n ≤ l.length ∧ i = .int .i64 n ∧ (∀ x ∈ l.take n, x.1 ≠ key) ∧ Below w.heap.size w wr) (fun i _ => l.length - (intOf i).toNat)
  case atStart => exact ⟨0, Nat.zero_le _, rfl, by simp, Below.refl _ _⟩
  case round =>
    obtain ⟨n, hn, rfl, hno, hb⟩ := hrel
    have HNO := Lib.hid hno
    clear hno
    by_cases hlt : n < l.length
    · obtain ⟨q, hq⟩ : ∃ q, l[n]? = some q := ⟨_, List.getElem?_eq_getElem hlt⟩
      obtain ⟨b, o, rfl, c0, c1⟩ := (HH.out.below hb).2.2.1 n q hq
      obtain ⟨x0, x1⟩ := q
      dsimp only at c0 c1
      have HQ := Lib.hid hq
      have hb1 := hb.alloc hb.size (.cells #[.int .i64 x0, .int .i64 x1] 32)
      clear hq
      by_cases hk : x0 = key
      · subst hk
        go_wp2_with (fail)
        go_ret
        exact ⟨congrArg (fun z : Int => Ending.returned (.int .i64 z)) (ixL_at HQ.out HNO.out).symm, hb1⟩
      · have hk' : (x0 == key) = false := by simpa using hk
        have HK := Lib.hid hk
        clear hk
        go_wp2_with (fail)
        go_roundw
        case rel =>
          refine ⟨n + 1, by omega, by go_num, fun x hx => ?_, hb1⟩
          rw [List.take_succ_eq_append_getElem hlt, List.mem_append] at hx
          rcases hx with hx | hx
          · exact HNO.out x hx
          · have : x = (x0, x1) := by
              rw [List.mem_singleton.1 hx]
              have := (List.getElem?_eq_some_iff.1 HQ.out).2
              exact this
            rw [this]; exact HK.out
        case measure => simp [intOf]; omega
    · obtain rfl : n = l.length := by omega
      go_wp2_with (fail)
      go_ret
      exact ⟨congrArg (fun z : Int => Ending.returned (.int .i64 z)) (ixL_none (fun x hx => HNO.out x (by rw [List.take_of_length_le (Nat.le_refl _)]; exact hx))).symm, hb⟩

/-! ### May -/

instance srtDec (l : List Pr) : Decidable (Srt l) := by unfold Srt; infer_instance
theorem adj_srt : ∀ (l : List Pr), (∀ (i : Nat) (a b : Pr), l[i]? = some a → l[i + 1]? = some b → a.1 < b.1) → Srt l := by
  intro l
  induction l with
  | nil => intro _; exact Srt.nil
  | cons q l ih =>
    intro h
    have hl : Srt l := ih (fun i a b ha hb => h (i + 1) a b (by simpa using ha) (by simpa using hb))
    refine List.pairwise_cons.2 ⟨fun x hx => ?_, hl⟩
    cases l with
    | nil => cases hx
    | cons r l =>
      have h0 := h 0 q r rfl rfl
      rcases List.mem_cons.1 hx with rfl | hx
      · exact h0
      · exact Int.lt_trans h0 ((List.pairwise_cons.1 hl).1 x hx)

set_option maxRecDepth 100000 in
set_option maxHeartbeats 6400000 in
theorem rmay_any (a : Option Addr) (cap : Nat) (l : List Pr) (w : World) (h : Prs w a cap l) (B : Bool) (hB : decide (Srt l) = B) :
    Calls Try.prog 12 #[.slice a l.length cap] w fun e w' => e = .returned (.bool B) ∧ Below w.heap.size w w' := by
  have HH := Lib.hid h
  have HB := Lib.hid hB
  have hc1 := h.1
  have hc2 := h.2.1
  clear h hB
  unfold maxLen at hc2
  go_enter Try.func12, Try.ntmps12
  go_wp2_with (fail)
  go_loopw [3] (fun i wr => ∃ n : Nat, n ≤ l.length ∧ i = .int .i64 (n + 1 : Int) ∧ (∀ (j : Nat) (a b : Pr), j < n → l[j]? = some a → l[j + 1]? = some b → a.1 < b.1) ∧ Below w.heap.size w wr) (fun i _ => l.length + 1 - (intOf i).toNat)
  case atStart => exact ⟨0, Nat.zero_le _, rfl, fun j _ _ hj => absurd hj (Nat.not_lt_zero _), Below.refl _ _⟩
  case round =>
    obtain ⟨n, hn, rfl, hall, hb⟩ := hrel
    have HALL := Lib.hid hall
    clear hall
    by_cases hlt : n + 1 < l.length
    · obtain ⟨q, hq⟩ : ∃ q, l[n]? = some q := ⟨_, List.getElem?_eq_getElem (by omega)⟩
      obtain ⟨q', hq'⟩ : ∃ q, l[n + 1]? = some q := ⟨_, List.getElem?_eq_getElem hlt⟩
      obtain ⟨b, o, rfl, c0, _⟩ := (HH.out.below hb).2.2.1 n q hq
      obtain ⟨b', o', e, d0, _⟩ := (HH.out.below hb).2.2.1 (n + 1) q' hq'
      cases e
      obtain ⟨x0, x1⟩ := q
      obtain ⟨y0, y1⟩ := q'
      dsimp only at c0 d0
      have HQ := Lib.hid (And.intro hq hq')
      clear hq hq'
      have hlt' : (n : Int) + 1 < (l.length : Int) := by omega
      have hn0 : (0 : Int) ≤ (n : Int) := by omega
      have hn1 : (0 : Int) ≤ (n : Int) + 1 := by omega
      have hnl : (n : Int) < (l.length : Int) := by omega
      have hw2 : IntKind.i64.wrap ((n : Int) + 1 - 1) = (n : Int) := by rw [IntKind.wrap_i64]; omega
      have ht : ((n : Int) + 1).toNat = n + 1 := by omega
      by_cases hxy : y0 ≤ x0
      · have hy : decide (y0 ≤ x0) = true := decide_eq_true hxy
        have hB : B = false := by
          rw [← HB.out]
          refine decide_eq_false (fun hs => ?_)
          have := hs.at n (n + 1) _ _ (by omega) HQ.out.1 HQ.out.2
          dsimp only at this
          omega
        clear hxy
        go_wp2_with (fail)
        go_quiet (fail)
        go_wp2_with (fail)
        go_ret
        exact ⟨congrArg (fun b : Bool => Ending.returned (.bool b)) hB.symm, below_drewN hb _⟩
      · have hy : decide (y0 ≤ x0) = false := decide_eq_false hxy
        have HL := Lib.hid (show x0 < y0 by omega)
        clear hxy
        go_wp2_with (fail)
        go_quiet (fail)
        go_wp2_with (fail)
        go_roundw
        case rel => exact ⟨n + 1, by omega, by go_num, fun j a b hj ha hb => by
          rcases Nat.lt_succ_iff_lt_or_eq.1 hj with hj | rfl
          · exact HALL.out j a b hj ha hb
          · have h1 := HQ.out.1.symm.trans ha
            have h2 := HQ.out.2.symm.trans hb
            cases h1; cases h2
            exact HL.out, below_drewN hb _⟩
        case measure => simp [intOf]; omega
    · have hge : ¬ (n : Int) + 1 < (l.length : Int) := by omega
      have hB : B = true := by
        rw [← HB.out]
        refine decide_eq_true (adj_srt l (fun i a b ha hb => HALL.out i a b ?_ ha hb))
        have := (List.getElem?_eq_some_iff.1 hb).1
        omega
      go_wp2_with (fail)
      go_ret
      exact ⟨rfl, hb⟩

set_option maxRecDepth 100000 in
set_option maxHeartbeats 6400000 in
theorem lmay_any (a : Option Addr) (cap : Nat) (l : List Pr) (w : World) (h : Prs w a cap l) (B : Bool) (hB : decide (Srt l) = B) :
    Calls Try.prog 18 #[.slice a l.length cap] w fun e w' => e = .returned (.bool B) ∧ Below w.heap.size w w' := by
  have HH := Lib.hid h
  have HB := Lib.hid hB
  have hc1 := h.1
  have hc2 := h.2.1
  clear h hB
  unfold maxLen at hc2
  go_enter Try.func18, Try.ntmps18
  go_wp2_with (fail)
  go_loopw [3] (fun i wr => ∃ n : Nat, n ≤ l.length ∧ i = .int .i64 (n + 1 : Int) ∧ (∀ (j : Nat) (a b : Pr), j < n → l[j]? = some a → l[j + 1]? = some b → a.1 < b.1) ∧ Below w.heap.size w wr) (fun i _ => l.length + 1 - (intOf i).toNat)
  case atStart => exact ⟨0, Nat.zero_le _, rfl, fun j _ _ hj => absurd hj (Nat.not_lt_zero _), Below.refl _ _⟩
  case round =>
    obtain ⟨n, hn, rfl, hall, hb⟩ := hrel
    have HALL := Lib.hid hall
    clear hall
    by_cases hlt : n + 1 < l.length
    · obtain ⟨q, hq⟩ : ∃ q, l[n]? = some q := ⟨_, List.getElem?_eq_getElem (by omega)⟩
      obtain ⟨q', hq'⟩ : ∃ q, l[n + 1]? = some q := ⟨_, List.getElem?_eq_getElem hlt⟩
      obtain ⟨b, o, rfl, c0, _⟩ := (HH.out.below hb).2.2.1 n q hq
      obtain ⟨b', o', e, d0, _⟩ := (HH.out.below hb).2.2.1 (n + 1) q' hq'
      cases e
      obtain ⟨x0, x1⟩ := q
      obtain ⟨y0, y1⟩ := q'
      dsimp only at c0 d0
      have HQ := Lib.hid (And.intro hq hq')
      clear hq hq'
      have hlt' : (n : Int) + 1 < (l.length : Int) := by omega
      have hn0 : (0 : Int) ≤ (n : Int) := by omega
      have hn1 : (0 : Int) ≤ (n : Int) + 1 := by omega
      have hnl : (n : Int) < (l.length : Int) := by omega
      have hw2 : IntKind.i64.wrap ((n : Int) + 1 - 1) = (n : Int) := by rw [IntKind.wrap_i64]; omega
      have ht : ((n : Int) + 1).toNat = n + 1 := by omega
      by_cases hxy : y0 ≤ x0
      · have hy : decide (y0 ≤ x0) = true := decide_eq_true hxy
        have hB : B = false := by
          rw [← HB.out]
          refine decide_eq_false (fun hs => ?_)
          have := hs.at n (n + 1) _ _ (by omega) HQ.out.1 HQ.out.2
          dsimp only at this
          omega
        clear hxy
        go_wp2_with (fail)
        go_quiet (fail)
        go_wp2_with (fail)
        go_ret
        exact ⟨congrArg (fun b : Bool => Ending.returned (.bool b)) hB.symm, below_drewN hb _⟩
      · have hy : decide (y0 ≤ x0) = false := decide_eq_false hxy
        have HL := Lib.hid (show x0 < y0 by omega)
        clear hxy
        go_wp2_with (fail)
        go_quiet (fail)
        go_wp2_with (fail)
        go_roundw
        case rel => exact ⟨n + 1, by omega, by go_num, fun j a b hj ha hb => by
          rcases Nat.lt_succ_iff_lt_or_eq.1 hj with hj | rfl
          · exact HALL.out j a b hj ha hb
          · have h1 := HQ.out.1.symm.trans ha
            have h2 := HQ.out.2.symm.trans hb
            cases h1; cases h2
            exact HL.out, below_drewN hb _⟩
        case measure => simp [intOf]; omega
    · have hge : ¬ (n : Int) + 1 < (l.length : Int) := by omega
      have hB : B = true := by
        rw [← HB.out]
        refine decide_eq_true (adj_srt l (fun i a b ha hb => HALL.out i a b ?_ ha hb))
        have := (List.getElem?_eq_some_iff.1 hb).1
        omega
      go_wp2_with (fail)
      go_ret
      exact ⟨rfl, hb⟩

end Go.Proofs.Ytadfnbmogobopaa
