/- slices.Clone of pairs; slices.CompactFunc on a row of pairs of one's own: the first pair of each key is kept. No condition: lemmas. -/
import Derived.Test.YtadfnbmogobopaaMdB
import Derived.Test.YtadfnbmogobopaaLfB
import Derived.Lib.SliceRun
namespace Go.Proofs.Ytadfnbmogobopaa
open Go.RowKit Go.Sort
set_option linter.all false
set_option maxRecDepth 20000

set_option maxHeartbeats 1600000 in
theorem clone_some (ad : Addr) (cap : Nat) (l : List Pr) (w : World) (h : Prs w (some ad) cap l) (hl : l.length ≤ 1100000) :
    Calls Try.prog 28 #[.slice (some ad) l.length cap] w (RowIs w l) := by
  have ba : Below w.heap.size w (w.alloc (.cells #[] 32)) := (Below.refl _ _).alloc (Nat.le_refl _) _
  have HH := Lib.hid (h.below ba)
  have HP := Lib.hid (PRow.lit w)
  have hc1 := h.1
  have hc2 := h.2.1
  clear h
  unfold maxLen at hc2
  go_enter Try.func28, Try.ntmps28
  have hq := fun W => Lib.run_eql_slice_nil (P := Try.prog) W 22 32 (some ad) l.length cap 0 0 Try.underlying22
  simp only [Option.isNone] at hq
  go_wp2_with (at_builtin; refine wpList_app rfl (.tmp 5) (.tmp 6) rfl (fun j => j < w.heap.size) _ [] l rfl HP.out (fun k hk => by simp; omega) _ rfl (src_any HH.out) (by simp; omega) l.length (by simp) l rfl ?_; intro ao cp w1 hm1 hc3 hR hO; have HF := Lib.hid (And.intro hR hO); clear hR hO; unfold maxLen at hm1)
  go_ret
  exact ⟨_, _, rfl, HF.out.1, only_below (w0 := w) ba HF.out.2 (fun k hk => hk)⟩
/-- slices.Clone. -/
theorem clone_any (a : Option Addr) (cap : Nat) (l : List Pr) (w : World) (h : Prs w a cap l) (hl : l.length ≤ 1100000) :
    Calls Try.prog 28 #[.slice a l.length cap] w (RowIs w l) := by
  cases a with
  | some ad => exact clone_some ad cap l w h hl
  | none =>
    have e0 := h.2.2.2 rfl
    have e1 : l = [] := List.eq_nil_of_length_eq_zero (by have := h.1; omega)
    subst e0
    subst e1
    clear h
    have hq := fun W => Lib.run_eql_slice_nil (P := Try.prog) W 22 32 none 0 0 0 0 Try.underlying22
    simp only [Option.isNone] at hq
    go_enter Try.func28, Try.ntmps28
    go_wp2_with (fail)
    go_ret
    exact ⟨_, _, rfl, PRow.nil _ _, Below.refl _ _⟩

theorem new2_yes (k v v' : Int) (w : World) : Calls Try.prog 42 #[.agg #[.int .i64 k, .int .i64 v], .agg #[.int .i64 k, .int .i64 v']] w fun e w' =>
    e = .returned (.bool true) ∧ ∃ q os', w' = grow (w.drewN q) os' := by
  go_enter Try.func42, Try.ntmps42
  go_wp2_with (fail)
  go_ret
  exact ⟨by simp, 0, _, by rw [alloc_eq_grow, alloc_eq_grow, grow_grow]; rfl⟩
theorem new2_no (k v k' v' : Int) (w : World) (h : ¬ k = k') : Calls Try.prog 42 #[.agg #[.int .i64 k, .int .i64 v], .agg #[.int .i64 k', .int .i64 v']] w fun e w' =>
    e = .returned (.bool false) ∧ ∃ q os', w' = grow (w.drewN q) os' := by
  have hb : (k == k') = false := by simp [h]
  go_enter Try.func42, Try.ntmps42
  go_wp2_with (fail)
  go_ret
  exact ⟨by simp [hb, h], 0, _, by rw [alloc_eq_grow, alloc_eq_grow, grow_grow]; rfl⟩

/-- A row's first pairs are a row. -/
theorem PRow.first {w : World} {S : Nat → Prop} {g n cap : Nat} {l : List Pr} (h : PRow w S (.slice (some ⟨g, 0, none⟩) n cap) l) (hn : l.length = n) (m : Nat) (hm : m ≤ n) : PRow w S (.slice (some ⟨g, 0, none⟩) m cap) (l.take m) := by
  subst hn
  refine ⟨?_, fun k hk => h.av k hk⟩
  have hl : (l.take m).length = m := by rw [List.length_take]; omega
  have hc : ∀ (l : List Pr) (m : Nat), cellsP (l.take m) = (cellsP l).take (m * 2) := by
    intro l
    induction l with
    | nil => intro m; simp [cellsP]
    | cons x l ih =>
      intro m
      cases m with
      | zero => simp [cellsP]
      | succ m =>
        rw [show (m + 1) * 2 = m * 2 + 1 + 1 by omega]
        simp only [List.take_succ_cons, cellsP, ih m]
  rw [hl, hc]
  refine ⟨by rw [List.length_take, cellsP_len]; omega, ?_⟩
  rcases h.row.2 with ⟨e, _⟩ | ⟨g', cap', cur, e, hb, hg, hnc, hcm, hcs, ht⟩
  · simp at e
  · simp only [Value.slice.injEq, Option.some.injEq, Addr.mk.injEq, and_true, true_and] at e
    obtain ⟨rfl, rfl⟩ := e
    refine .inr ⟨_, _, cur, rfl, hb, hg, by omega, hcm, hcs, ?_⟩
    rw [← ht, List.take_take]
    congr 1
    omega

theorem zeros2 (n : Nat) : (Builtin.zeroCells (Value.agg #[.int .i64 0, .int .i64 0]).cells n).toList = List.replicate (n * 2) (Value.int .i64 0) := by
  have hz : (Value.agg #[.int .i64 0, .int .i64 0]).cells = #[.int .i64 0, .int .i64 0] := rfl
  rw [hz]
  simp only [Builtin.zeroCells]
  apply List.ext_getElem
  · simp
  · intro i h1 h2
    simp only [Array.toList_map, Array.toList_range, List.getElem_map, List.getElem_range, List.getElem_replicate]
    have : i % (#[Value.int .i64 0, .int .i64 0] : Array Value).size = 0 ∨ i % (#[Value.int .i64 0, .int .i64 0] : Array Value).size = 1 := by
      show i % 2 = 0 ∨ i % 2 = 1
      omega
    rcases this with e | e <;> rw [e] <;> rfl
theorem zeroP (w : World) : (zeroValue 32).run Try.prog w = .ok (.agg #[.int .i64 0, .int .i64 0]) w := by rfl
/-- clear of pairs. -/
theorem run_clear_prs (w : World) (ty : TypeId) (b o n c : Nat) (hn : 0 < n) (hc : ∀ j, j < n * 2 → (w.cell? ⟨b, o + j, none⟩).isSome = true) (hf : ∀ j, j < n * 2 → w.frozen? ⟨b, o + j, none⟩ = false) :
    (Builtin.clear_ #[22] ty #[.slice (some ⟨b, o, none⟩) n c]).run Try.prog w = .ok (.tuple #[]) (w.setCells b o (List.replicate (n * 2) (.int .i64 0))) := by
  have hst := run_storeCells_cells (P := Try.prog) b o (List.replicate (n * 2) (.int .i64 0)) 0 w (by simpa using hc) (by simpa using hf) (by intro v hv'; rw [List.eq_of_mem_replicate hv']; rfl)
  simp only [Nat.add_zero] at hst
  obtain ⟨m, rfl⟩ : ∃ m, n = m + 1 := ⟨n - 1, by omega⟩
  simp [Builtin.clear_, run_underlying Try.underlying22, zeroP, zeros2, hst]
theorem only_cellsP (g : Nat) : ∀ (vs : List Value) (o : Nat) (W : World), Only (fun k => k = g) W (W.setCells g o vs)
  | [], o, W => Only.refl _ _
  | v :: vs, o, W => ((Only.refl (fun k => k = g) W).setCell (p := ⟨g, o, none⟩) (.inl rfl) v).trans (only_cellsP g vs (o + 1) _) (fun k hk _ => hk)
theorem row_cells {g n cap : Nat} {S : Nat → Prop} : ∀ (vs : List Value) (o : Nat) (w : World) (xs : List Value), w.ownsRow 0 32 2 (.slice (some ⟨g, 0, none⟩) n cap) n xs →
    ∃ ys, (w.setCells g o vs).ownsRow 0 32 2 (.slice (some ⟨g, 0, none⟩) n cap) n ys ∧ ys.take o = xs.take o
  | [], o, w, xs, h => ⟨xs, h, rfl⟩
  | v :: vs, o, w, xs, h => by
    obtain ⟨ys, h1, h2⟩ := row_cells (S := S) vs (o + 1) _ _ (h.stored o v).1
    refine ⟨ys, h1, ?_⟩
    have := congrArg (List.take o) h2
    rw [List.take_take, List.take_take, show min o (o + 1) = o by omega, List.take_set_of_le (Nat.le_refl _)] at this
    exact this
/-- Behind a clear from m on the first m pairs are what they were. -/
theorem PRow.cleared {w : World} {S : Nat → Prop} {g n cap : Nat} {l : List Pr} (h : PRow w S (.slice (some ⟨g, 0, none⟩) n cap) l) (hn : l.length = n) (m : Nat) (hm : m ≤ n) (vs : List Value) :
    PRow (w.setCells g (m * 2) vs) S (.slice (some ⟨g, 0, none⟩) m cap) (l.take m) := by
  have hf := h.first hn m hm
  obtain ⟨ys, h1, h2⟩ := row_cells (S := S) vs (m * 2) w (cellsP l) (by have := h.row; rwa [hn] at this)
  refine ⟨?_, fun k hk => h.av k hk⟩
  have hl : (l.take m).length = m := by rw [List.length_take]; omega
  have hr := hf.row
  rw [hl] at hr ⊢
  refine ⟨hr.1, ?_⟩
  rcases h1.2 with ⟨e, _⟩ | ⟨g', cap', cur, e, hb, hg, hnc, hcm, hcs, ht⟩
  · simp at e
  rcases h.row.2 with ⟨e', _⟩ | ⟨g2, cap2, cur2, e', hb2, hg2, hnc2, hcm2, hcs2, ht2⟩
  · simp at e'
  rcases hr.2 with ⟨e3, _⟩ | ⟨g3, cap3, cur3, e3, hb3, hg3, hnc3, hcm3, hcs3, ht3⟩
  · simp at e3
  simp only [Value.slice.injEq, Option.some.injEq, Addr.mk.injEq, and_true, true_and] at e e' e3
  obtain ⟨rfl, rfl⟩ := e
  obtain ⟨rfl, -, rfl⟩ := e'
  obtain ⟨rfl, rfl⟩ := e3
  refine .inr ⟨_, _, cur, rfl, hb, hg, by omega, hcm, hcs, ?_⟩
  have hcc : cur2 = cur3 := by
    rw [hg2] at hg3
    simpa using hg3
  subst hcc
  have a1 : cur.toList.take (m * 2) = ys.take (m * 2) := by rw [← ht, List.take_take]; congr 1; omega
  have a2 : cur2.toList.take (m * 2) = (cellsP l).take (m * 2) := by rw [← ht2, List.take_take]; congr 1; omega
  rw [a1, h2, ← a2]
  exact ht3
end Go.Proofs.Ytadfnbmogobopaa
