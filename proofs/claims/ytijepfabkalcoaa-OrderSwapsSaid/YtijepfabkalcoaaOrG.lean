/- osierlaw19.awake. No condition: lemmas. -/
import Derived.Test.YtijepfabkalcoaaOrF
namespace Go.Proofs.Ytijepfabkalcoaa
open Go.RowKit
set_option linter.all false
set_option maxRecDepth 20000

set_option maxRecDepth 100000 in
set_option maxHeartbeats 6400000 in
theorem ev_any (x : EvD) (pa : Option Addr) (pc : Nat) (w : World) :
    Calls Try.prog 52 #[.int .i64 x.t, .bool x.r, .agg #[.int .i64 x.o.c, .int .i64 x.o.k, .int .i64 x.o.h, .int .i64 x.o.v], .agg #[.int .i64 x.a.err, .bool x.a.ok, .int .i64 x.a.k, .int .i64 x.a.v, .int .i64 x.a.n, .slice pa x.a.ps.length pc]] w fun e w' => e = .returned (evV x pa pc) ∧ Below w.heap.size w w' := by
  obtain ⟨t, r, ⟨oc, ok, oh, ov⟩, ⟨ae, ao, ak, av, an, ap⟩⟩ := x
  unfold evV
  dsimp only
  go_enter Try.func52, Try.ntmps52
  go_wp2_with (fail)
  refine bodyPost_ret (v := .agg #[.int .i64 t, .bool r, .int .i64 oc, .int .i64 ok, .int .i64 oh, .int .i64 ov, .int .i64 ae, .bool ao, .int .i64 ak, .int .i64 av, .int .i64 an, .slice pa ap.length pc]) (by simp [results, Try.results52, go_sem]) rfl ?_
  refine ⟨rfl, ?_⟩
  exact pb1 (pb1 (pal _) _) _
def hh : List EvD := [⟨0, false, ⟨1, 1, 0, 5⟩, zAd⟩, ⟨1, false, ⟨4, 1, 0, 0⟩, zAd⟩, ⟨1, true, ⟨4, 1, 0, 0⟩, ⟨0, true, 1, 5, 0, []⟩⟩]
def hl2 : List ClD := [⟨0, 0, -1, ⟨1, 1, 0, 5⟩, zAd⟩, ⟨1, 1, 2, ⟨4, 1, 0, 0⟩, ⟨0, true, 1, 5, 0, []⟩⟩]
theorem hh_is : mtch hh = some ⟨[1, 0, 0, 0, 0, 0], hl2⟩ := by rfl
theorem hh_yes : ordR [] hh [0, 1] := by
  refine ⟨Srt.nil, _, hh_is, ⟨by decide, by decide, by decide, by decide⟩, fun i j hij hj => ?_, ?_⟩
  · obtain ⟨rfl, rfl⟩ : i = 0 ∧ j = 1 := by simp at hj; omega
    decide
  · have h : ∀ i, i < 2 → tel [] (dn hl2 [0, 1]) i := by decide
    exact h
theorem hh_end : endP [] hh [0, 1] = [(1, 5)] := by
  unfold endP
  rw [hh_is]
  decide
theorem hh_no1 : ¬ ordR [] hh [1, 0] := fun ⟨_, s, h1, h2⟩ => by
  rw [hh_is] at h1; cases h1
  exact absurd (h2.tl 0 (by decide)) (by decide)
theorem hh_no2 : ¬ ordR [] hh [1] := fun ⟨_, s, h1, h2⟩ => by
  rw [hh_is] at h1; cases h1
  exact absurd (h2.tl 0 (by decide)) (by decide)
theorem RI.two (w : World) (x y : Int) : RI (w.alloc (.cells #[.int .i64 x, .int .i64 y] 3)) (some ⟨w.heap.size, 0, Option.none⟩) 2 [x, y] := by
  refine ⟨by simp, by unfold maxLen; omega, fun n v hv => ⟨w.heap.size, 0, rfl, ?_⟩⟩
  match n with
  | 0 => simp at hv; subst hv; simp
  | 1 => simp at hv; subst hv; simp
  | n + 2 => simp at hv
theorem hh_es (w : World) : Es (w.alloc (.cells #[.int .i64 0, .bool false, .int .i64 1, .int .i64 1, .int .i64 0, .int .i64 5, .int .i64 0, .bool false, .int .i64 0, .int .i64 0, .int .i64 0, .slice none 0 0, .int .i64 1, .bool false, .int .i64 4, .int .i64 1, .int .i64 0, .int .i64 0, .int .i64 0, .bool false, .int .i64 0, .int .i64 0, .int .i64 0, .slice none 0 0, .int .i64 1, .bool true, .int .i64 4, .int .i64 1, .int .i64 0, .int .i64 0, .int .i64 0, .bool true, .int .i64 1, .int .i64 5, .int .i64 0, .slice none 0 0] 62)) (some ⟨w.heap.size, 0, none⟩) 3 hh := by
  have h := Bq.new w #[.int .i64 0, .bool false, .int .i64 1, .int .i64 1, .int .i64 0, .int .i64 5, .int .i64 0, .bool false, .int .i64 0, .int .i64 0, .int .i64 0, .slice none 0 0, .int .i64 1, .bool false, .int .i64 4, .int .i64 1, .int .i64 0, .int .i64 0, .int .i64 0, .bool false, .int .i64 0, .int .i64 0, .int .i64 0, .slice none 0 0, .int .i64 1, .bool true, .int .i64 4, .int .i64 1, .int .i64 0, .int .i64 0, .int .i64 0, .bool true, .int .i64 1, .int .i64 5, .int .i64 0, .slice none 0 0] 62
  refine ⟨by decide, by decide, fun i e he => ⟨w.heap.size, 0, none, 0, rfl, ?_⟩⟩
  match i with
  | 0 =>
    simp [hh] at he; subst he
    exact ⟨fun j v hj => h.at_ (0 + 0 * 12 + j) v (by
      have hj12 : j < 12 := by have := (List.getElem?_eq_some_iff.1 hj).1; simpa [evC] using this
      match j, hj12 with
      | 0, _ | 1, _ | 2, _ | 3, _ | 4, _ | 5, _ | 6, _ | 7, _ | 8, _ | 9, _ | 10, _ | 11, _ => exact hj), Prs.nil _⟩
  | 1 =>
    simp [hh] at he; subst he
    exact ⟨fun j v hj => h.at_ (0 + 1 * 12 + j) v (by
      have hj12 : j < 12 := by have := (List.getElem?_eq_some_iff.1 hj).1; simpa [evC] using this
      match j, hj12 with
      | 0, _ | 1, _ | 2, _ | 3, _ | 4, _ | 5, _ | 6, _ | 7, _ | 8, _ | 9, _ | 10, _ | 11, _ => exact hj), Prs.nil _⟩
  | 2 =>
    simp [hh] at he; subst he
    exact ⟨fun j v hj => h.at_ (0 + 2 * 12 + j) v (by
      have hj12 : j < 12 := by have := (List.getElem?_eq_some_iff.1 hj).1; simpa [evC] using this
      match j, hj12 with
      | 0, _ | 1, _ | 2, _ | 3, _ | 4, _ | 5, _ | 6, _ | 7, _ | 8, _ | 9, _ | 10, _ | 11, _ => exact hj), Prs.nil _⟩
  | n + 3 => simp [hh] at he

set_option maxRecDepth 100000 in
set_option maxHeartbeats 12800000 in
theorem owake_any (w : World) : Calls Try.prog 26 #[] w fun e w' => e = .returned (.bool true) ∧ Below w.heap.size w w' := by
  have ce0 := fun W => ev_any ⟨0, false, ⟨1, 1, 0, 5⟩, zAd⟩ none 0 W
  have ce1 := fun W => ev_any ⟨1, false, ⟨4, 1, 0, 0⟩, zAd⟩ none 0 W
  have ce2 := fun W => ev_any ⟨1, true, ⟨4, 1, 0, 0⟩, ⟨0, true, 1, 5, 0, []⟩⟩ none 0 W
  unfold evV zAd at ce0 ce1
  unfold evV at ce2
  dsimp only [List.length_nil] at ce0 ce1 ce2
  have hba : Below w.heap.size w ((w.alloc (.cells #[.int .i64 1, .int .i64 1, .int .i64 0, .int .i64 5] 28)).alloc (.cells #[.int .i64 4, .int .i64 1, .int .i64 0, .int .i64 0] 28)) := pb1 (pal _) _
  go_enter Try.func26, Try.ntmps26
  go_wp2_with (fail)
  have p0 : ((w.alloc (.cells #[.int .i64 1, .int .i64 1, .int .i64 0, .int .i64 5] 28)).alloc (.cells #[.int .i64 4, .int .i64 1, .int .i64 0, .int .i64 0] 28)).cell? ⟨w.heap.size, 0, none⟩ = some (.int .i64 1) := by simp
  have p1 : ((w.alloc (.cells #[.int .i64 1, .int .i64 1, .int .i64 0, .int .i64 5] 28)).alloc (.cells #[.int .i64 4, .int .i64 1, .int .i64 0, .int .i64 0] 28)).cell? ⟨w.heap.size, 1, none⟩ = some (.int .i64 1) := by simp
  have p2 : ((w.alloc (.cells #[.int .i64 1, .int .i64 1, .int .i64 0, .int .i64 5] 28)).alloc (.cells #[.int .i64 4, .int .i64 1, .int .i64 0, .int .i64 0] 28)).cell? ⟨w.heap.size, 2, none⟩ = some (.int .i64 0) := by simp
  have p3 : ((w.alloc (.cells #[.int .i64 1, .int .i64 1, .int .i64 0, .int .i64 5] 28)).alloc (.cells #[.int .i64 4, .int .i64 1, .int .i64 0, .int .i64 0] 28)).cell? ⟨w.heap.size, 3, none⟩ = some (.int .i64 5) := by simp
  have g0 : ((w.alloc (.cells #[.int .i64 1, .int .i64 1, .int .i64 0, .int .i64 5] 28)).alloc (.cells #[.int .i64 4, .int .i64 1, .int .i64 0, .int .i64 0] 28)).cell? ⟨w.heap.size + 1, 0, none⟩ = some (.int .i64 4) := by simp
  have g1 : ((w.alloc (.cells #[.int .i64 1, .int .i64 1, .int .i64 0, .int .i64 5] 28)).alloc (.cells #[.int .i64 4, .int .i64 1, .int .i64 0, .int .i64 0] 28)).cell? ⟨w.heap.size + 1, 1, none⟩ = some (.int .i64 1) := by simp
  have g2 : ((w.alloc (.cells #[.int .i64 1, .int .i64 1, .int .i64 0, .int .i64 5] 28)).alloc (.cells #[.int .i64 4, .int .i64 1, .int .i64 0, .int .i64 0] 28)).cell? ⟨w.heap.size + 1, 2, none⟩ = some (.int .i64 0) := by simp
  have g3 : ((w.alloc (.cells #[.int .i64 1, .int .i64 1, .int .i64 0, .int .i64 5] 28)).alloc (.cells #[.int .i64 4, .int .i64 1, .int .i64 0, .int .i64 0] 28)).cell? ⟨w.heap.size + 1, 3, none⟩ = some (.int .i64 0) := by simp
  refine wp_region_held_drew (S := fun W => W.cell? ⟨w.heap.size, 0, none⟩ = some (.int .i64 1) ∧ W.cell? ⟨w.heap.size, 1, none⟩ = some (.int .i64 1) ∧ W.cell? ⟨w.heap.size, 2, none⟩ = some (.int .i64 0) ∧ W.cell? ⟨w.heap.size, 3, none⟩ = some (.int .i64 5) ∧ W.cell? ⟨w.heap.size + 1, 0, none⟩ = some (.int .i64 4) ∧ W.cell? ⟨w.heap.size + 1, 1, none⟩ = some (.int .i64 1) ∧ W.cell? ⟨w.heap.size + 1, 2, none⟩ = some (.int .i64 0) ∧ W.cell? ⟨w.heap.size + 1, 3, none⟩ = some (.int .i64 0) ∧ Below w.heap.size w W) (by kernel_rfl) (by first | exact ⟨p0, p1, p2, p3, g0, g1, g2, g3, hba⟩ | exact ⟨p0, p1, p2, p3, g0, g1, g2, g3, hba.drew⟩) (fun hHeld => ?_)
  refine tkO 0 ?_ rfl (by kernel_rfl) (fun _ _ _ h => h) ⟨by rfl, ?_⟩ hHeld ?_; rotate_left
  · intro wS hSw; (try dsimp only at hSw); (try go_split_ands); go_simp; try with_reducible rfl
  try simp only [List.getElem_toArray, List.getElem_cons_succ, List.getElem_cons_zero, Act.put, List.setIfInBounds_toArray, List.set_cons_zero, List.set_cons_succ]
  refine tkO 1 ?_ rfl (by kernel_rfl) (fun _ _ _ h => h) ⟨by rfl, ?_⟩ hHeld ?_; rotate_left
  · intro wS hSw; (try dsimp only at hSw); (try go_split_ands); go_simp; try with_reducible rfl
  try simp only [List.getElem_toArray, List.getElem_cons_succ, List.getElem_cons_zero, Act.put, List.setIfInBounds_toArray, List.set_cons_zero, List.set_cons_succ]
  refine tkO 3 ?_ rfl (by kernel_rfl) (fun _ _ _ h => h) ⟨by rfl, ?_⟩ hHeld ?_; rotate_left
  · intro wS hSw; (try dsimp only at hSw); (try go_split_ands); go_simp; try with_reducible rfl
  try simp only [List.getElem_toArray, List.getElem_cons_succ, List.getElem_cons_zero, Act.put, List.setIfInBounds_toArray, List.set_cons_zero, List.set_cons_succ]
  refine tkO 4 ?_ rfl (by kernel_rfl) (fun _ _ _ h => h) ⟨by rfl, ?_⟩ hHeld ?_; rotate_left
  · intro wS hSw; (try dsimp only at hSw); (try go_split_ands); go_simp; try with_reducible rfl
  try simp only [List.getElem_toArray, List.getElem_cons_succ, List.getElem_cons_zero, Act.put, List.setIfInBounds_toArray, List.set_cons_zero, List.set_cons_succ]
  refine tkO 6 ?_ rfl (by kernel_rfl) (fun _ _ _ h => h) ⟨by rfl, ?_⟩ hHeld ?_; rotate_left
  · intro wS hSw; (try dsimp only at hSw); (try go_split_ands); go_simp; try with_reducible rfl
  try simp only [List.getElem_toArray, List.getElem_cons_succ, List.getElem_cons_zero, Act.put, List.setIfInBounds_toArray, List.set_cons_zero, List.set_cons_succ]
  refine tkO 7 ?_ rfl (by kernel_rfl) (fun _ _ _ h => h) ⟨by rfl, ?_⟩ hHeld ?_; rotate_left
  · intro wS hSw; (try dsimp only at hSw); (try go_split_ands); go_simp; try with_reducible rfl
  try simp only [List.getElem_toArray, List.getElem_cons_succ, List.getElem_cons_zero, Act.put, List.setIfInBounds_toArray, List.set_cons_zero, List.set_cons_succ]
  refine tkO 8 ?_ rfl (by kernel_rfl) (fun _ _ _ h => h) ⟨by rfl, ?_⟩ hHeld ?_; rotate_left
  · intro wS hSw; (try dsimp only at hSw); (try go_split_ands); go_simp; try with_reducible rfl
  try simp only [List.getElem_toArray, List.getElem_cons_succ, List.getElem_cons_zero, Act.put, List.setIfInBounds_toArray, List.set_cons_zero, List.set_cons_succ]
  refine wpAnyH_ready (rs := [2]) (by kernel_rfl) (by simp) ?_
  refine AllReadyH.cons rfl (fun K hK => ?_) AllReadyH.nil
  go_simp
  (go_at_call 52; ((with_reducible refine (ce0 _).mono ?_); clear ce0; rintro e Y0 ⟨rfl, hbY⟩))
  refine hK.out _ _ ?_ (fun hNext => ?_)
  · exact ⟨pkc hbY hHeld.1, pkc hbY hHeld.2.1, pkc hbY hHeld.2.2.1, pkc hbY hHeld.2.2.2.1, pkc hbY hHeld.2.2.2.2.1, pkc hbY hHeld.2.2.2.2.2.1, pkc hbY hHeld.2.2.2.2.2.2.1, pkc hbY hHeld.2.2.2.2.2.2.2.1, pb2 hHeld.2.2.2.2.2.2.2.2 hbY⟩
  clear hbY
  clear hK K hHeld
  have hHeld := hNext
  clear hNext
  try simp only [List.getElem_toArray, List.getElem_cons_succ, List.getElem_cons_zero, Act.put, List.setIfInBounds_toArray, List.set_cons_zero, List.set_cons_succ]
  refine wpAnyH_ready (rs := [5]) (by kernel_rfl) (by simp) ?_
  refine AllReadyH.cons rfl (fun K hK => ?_) AllReadyH.nil
  go_simp
  (go_at_call 52; ((with_reducible refine (ce1 _).mono ?_); clear ce1; rintro e Y1 ⟨rfl, hbY⟩))
  refine hK.out _ _ ?_ (fun hNext => ?_)
  · exact ⟨pkc hbY hHeld.1, pkc hbY hHeld.2.1, pkc hbY hHeld.2.2.1, pkc hbY hHeld.2.2.2.1, pkc hbY hHeld.2.2.2.2.1, pkc hbY hHeld.2.2.2.2.2.1, pkc hbY hHeld.2.2.2.2.2.2.1, pkc hbY hHeld.2.2.2.2.2.2.2.1, pb2 hHeld.2.2.2.2.2.2.2.2 hbY⟩
  clear hbY
  clear hK K hHeld
  have hHeld := hNext
  clear hNext
  try simp only [List.getElem_toArray, List.getElem_cons_succ, List.getElem_cons_zero, Act.put, List.setIfInBounds_toArray, List.set_cons_zero, List.set_cons_succ]
  refine wpAnyH_ready (rs := [9]) (by kernel_rfl) (by simp) ?_
  refine AllReadyH.cons rfl (fun K hK => ?_) AllReadyH.nil
  go_simp
  (go_at_call 52; ((with_reducible refine (ce2 _).mono ?_); clear ce2; rintro e Y2 ⟨rfl, hbY⟩))
  refine hK.out _ _ ?_ (fun hNext => ?_)
  · exact ⟨pkc hbY hHeld.1, pkc hbY hHeld.2.1, pkc hbY hHeld.2.2.1, pkc hbY hHeld.2.2.2.1, pkc hbY hHeld.2.2.2.2.1, pkc hbY hHeld.2.2.2.2.2.1, pkc hbY hHeld.2.2.2.2.2.2.1, pkc hbY hHeld.2.2.2.2.2.2.2.1, pb2 hHeld.2.2.2.2.2.2.2.2 hbY⟩
  clear hbY
  clear hK K hHeld
  have hHeld := hNext
  clear hNext
  try simp only [List.getElem_toArray, List.getElem_cons_succ, List.getElem_cons_zero, Act.put, List.setIfInBounds_toArray, List.set_cons_zero, List.set_cons_succ]
  refine wpAnyH_ready (rs := [10]) (by kernel_rfl) (by simp) ?_
  refine AllReadyH.cons rfl (fun K hK => ?_) AllReadyH.nil
  go_simp
  refine hK.out _ _ ?_ (fun hNext => ?_)
  · exact ⟨cell_alloc hHeld.1 _, cell_alloc hHeld.2.1 _, cell_alloc hHeld.2.2.1 _, cell_alloc hHeld.2.2.2.1 _, cell_alloc hHeld.2.2.2.2.1 _, cell_alloc hHeld.2.2.2.2.2.1 _, cell_alloc hHeld.2.2.2.2.2.2.1 _, cell_alloc hHeld.2.2.2.2.2.2.2.1 _, pb1 hHeld.2.2.2.2.2.2.2.2 _⟩
  have HE0 := Lib.hid (hh_es Y2)
  skip
  clear hK K hHeld
  have hHeld := hNext
  clear hNext
  try simp only [List.getElem_toArray, List.getElem_cons_succ, List.getElem_cons_zero, Act.put, List.setIfInBounds_toArray, List.set_cons_zero, List.set_cons_succ]
  refine tkO 11 ?_ rfl (by kernel_rfl) (fun _ _ _ h => h) ⟨by rfl, ?_⟩ hHeld ?_; rotate_left
  · intro wS hSw; (try dsimp only at hSw); (try go_split_ands); go_simp; try with_reducible rfl
  try simp only [List.getElem_toArray, List.getElem_cons_succ, List.getElem_cons_zero, Act.put, List.setIfInBounds_toArray, List.set_cons_zero, List.set_cons_succ]
  refine wpAnyH_done (by kernel_rfl) ?_ _
  have HB3 := Lib.hid hHeld.2.2.2.2.2.2.2.2
  clear hHeld p0 p1 p2 p3 g0 g1 g2 g3 hba
  have HB4 := Lib.hid HB3.out
  have hps : ∀ e ∈ hh, e.a.ps.length ≤ 1100000 := by decide
  have hl3 : hh.length = 3 := rfl
  have hy : ∀ W : World, Below (Y2.alloc (.cells #[.int .i64 0, .bool false, .int .i64 1, .int .i64 1, .int .i64 0, .int .i64 5, .int .i64 0, .bool false, .int .i64 0, .int .i64 0, .int .i64 0, .slice none 0 0, .int .i64 1, .bool false, .int .i64 4, .int .i64 1, .int .i64 0, .int .i64 0, .int .i64 0, .bool false, .int .i64 0, .int .i64 0, .int .i64 0, .slice none 0 0, .int .i64 1, .bool true, .int .i64 4, .int .i64 1, .int .i64 0, .int .i64 0, .int .i64 0, .bool true, .int .i64 1, .int .i64 5, .int .i64 0, .slice none 0 0] 62)).heap.size (Y2.alloc (.cells #[.int .i64 0, .bool false, .int .i64 1, .int .i64 1, .int .i64 0, .int .i64 5, .int .i64 0, .bool false, .int .i64 0, .int .i64 0, .int .i64 0, .slice none 0 0, .int .i64 1, .bool false, .int .i64 4, .int .i64 1, .int .i64 0, .int .i64 0, .int .i64 0, .bool false, .int .i64 0, .int .i64 0, .int .i64 0, .slice none 0 0, .int .i64 1, .bool true, .int .i64 4, .int .i64 1, .int .i64 0, .int .i64 0, .int .i64 0, .bool true, .int .i64 1, .int .i64 5, .int .i64 0, .slice none 0 0] 62)) W → Es W (some ⟨Y2.heap.size, 0, none⟩) 3 hh := fun W hb => HE0.out.keep hb
  have cE := fun (W : World) hb => oends_any none (some ⟨Y2.heap.size, 0, none⟩) (some ⟨W.heap.size, 0, none⟩) 0 3 2 [] hh [0, 1] (W.alloc (.cells #[.int .i64 0, .int .i64 1] 3)) (Prs.nil _) ((hy W hb).keep (pal _)) (RI.two W 0 1) (by decide) (by decide) hps (by decide) true (by simp [hh_yes]) [(1, 5)] (by rw [if_pos rfl, hh_end])
  have c1 := fun (W : World) hb => oright_any none (some ⟨Y2.heap.size, 0, none⟩) (some ⟨W.heap.size, 0, none⟩) 0 3 2 [] hh [0, 1] (W.alloc (.cells #[.int .i64 0, .int .i64 1] 3)) (Prs.nil _) ((hy W hb).keep (pal _)) (RI.two W 0 1) (by decide) (by decide) hps (by decide) true (by simp [hh_yes])
  have c2 := fun (W : World) hb => oright_any none (some ⟨Y2.heap.size, 0, none⟩) (some ⟨W.heap.size, 0, none⟩) 0 3 2 [] hh [1, 0] (W.alloc (.cells #[.int .i64 1, .int .i64 0] 3)) (Prs.nil _) ((hy W hb).keep (pal _)) (RI.two W 1 0) (by decide) (by decide) hps (by decide) false (by simp [hh_no1])
  have c3 := fun (W : World) hb => oright_any none (some ⟨Y2.heap.size, 0, none⟩) (some ⟨W.heap.size, 0, none⟩) 0 3 1 [] hh [1] (W.alloc (.cells #[.int .i64 1] 3)) (Prs.nil _) ((hy W hb).keep (pal _)) (RI.one W 1) (by decide) (by decide) hps (by decide) false (by simp [hh_no2])
  rw [hl3] at cE c1 c2 c3
  simp only [List.length_cons, List.length_nil, Nat.zero_add, Nat.reduceAdd] at cE c1 c2 c3
  clear hps hl3 hy HE0
  generalize Y2.alloc (.cells #[.int .i64 0, .bool false, .int .i64 1, .int .i64 1, .int .i64 0, .int .i64 5, .int .i64 0, .bool false, .int .i64 0, .int .i64 0, .int .i64 0, .slice none 0 0, .int .i64 1, .bool false, .int .i64 4, .int .i64 1, .int .i64 0, .int .i64 0, .int .i64 0, .bool false, .int .i64 0, .int .i64 0, .int .i64 0, .slice none 0 0, .int .i64 1, .bool true, .int .i64 4, .int .i64 1, .int .i64 0, .int .i64 0, .int .i64 0, .bool true, .int .i64 1, .int .i64 5, .int .i64 0, .slice none 0 0] 62) = W4 at HB4 cE c1 c2 c3 ⊢
  go_wp2_with (first
    | (go_at_call 27; ((with_reducible refine (cE _ (by first | exact Below.refl _ _ | exact (Below.refl _ _).drew)).mono ?_); clear cE; rintro e w5 ⟨ao5, cp5, rfl, hp5, hb5⟩; simp only [List.length_cons, List.length_nil, Nat.zero_add, Nat.reduceAdd]; have HB5 := Lib.hid (pb2 (by first | exact pal _ | exact pb1 ((Below.refl _ _).drew) _) hb5); clear hp5 hb5))
    | (go_at_call 29; ((with_reducible refine (c1 _ HB5.out).mono ?_); clear c1; rintro e w6 ⟨rfl, hb6⟩; have HB6 := Lib.hid (pb2 (pb1 HB5.out _) hb6); clear hb6))
    | (go_at_call 29; ((with_reducible refine (c2 _ HB6.out).mono ?_); clear c2; rintro e w7 ⟨rfl, hb7⟩; have HB7 := Lib.hid (pb2 (pb1 HB6.out _) hb7); clear hb7))
    | (go_at_call 29; ((with_reducible refine (c3 _ HB7.out).mono ?_); clear c3; rintro e w8 ⟨rfl, hb8⟩; have HB8 := Lib.hid (pb2 (pb1 HB7.out _) hb8); clear hb8))
    | fail)
  go_ret
  exact ⟨by simp, pb2 HB4.out HB8.out⟩

end Go.Proofs.Ytijepfabkalcoaa
