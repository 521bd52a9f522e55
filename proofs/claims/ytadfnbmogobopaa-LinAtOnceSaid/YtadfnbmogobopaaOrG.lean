/- osierlaw19.awake. No condition: lemmas. -/
import Derived.Test.YtadfnbmogobopaaOrF
namespace Go.Proofs.Ytadfnbmogobopaa
open Go.RowKit
set_option linter.all false
set_option maxRecDepth 20000

def hh : List EvD := [⟨0, false, ⟨1, 1, 0, 5⟩, zAd⟩, ⟨1, false, ⟨4, 1, 0, 0⟩, zAd⟩, ⟨1, true, ⟨4, 1, 0, 0⟩, ⟨0, true, 1, 5, 0, []⟩⟩]
def hl2 : List ClD := [⟨0, 0, -1, ⟨1, 1, 0, 5⟩, zAd⟩, ⟨1, 1, 2, ⟨4, 1, 0, 0⟩, ⟨0, true, 1, 5, 0, []⟩⟩]
theorem hh_is : mtch hh = some ⟨[1, 0, 0, 0, 0, 0], hl2⟩ := by rfl
theorem hh_yes : ordR [] hh [0, 1] := by
  refine ⟨Srt.nil, _, hh_is, ⟨by decide, by decide, by decide, by decide⟩, fun i j hij hj => ?_, ?_⟩
  · obtain ⟨rfl, rfl⟩ : i = 0 ∧ j = 1 := by simp at hj; omega
    decide
  · have h : ∀ i, i < 2 → tel [] (dn hl2 [0, 1]) i := by decide
    exact h
theorem hh_end : endP [] hh [0, 1] = [(1, 5)] := by
  unfold endP
  rw [hh_is]
  decide
theorem hh_no1 : ¬ ordR [] hh [1, 0] := fun ⟨_, s, h1, h2⟩ => by
  rw [hh_is] at h1; cases h1
  exact absurd (h2.tl 0 (by decide)) (by decide)
theorem hh_no2 : ¬ ordR [] hh [1] := fun ⟨_, s, h1, h2⟩ => by
  rw [hh_is] at h1; cases h1
  exact absurd (h2.tl 0 (by decide)) (by decide)
theorem RI.two (w : World) (x y : Int) : RI (w.alloc (.cells #[.int .i64 x, .int .i64 y] 3)) (some ⟨w.heap.size, 0, Option.none⟩) 2 [x, y] := by
  refine ⟨by simp, by unfold maxLen; omega, fun n v hv => ⟨w.heap.size, 0, rfl, ?_⟩⟩
  match n with
  | 0 => simp at hv; subst hv; simp
  | 1 => simp at hv; subst hv; simp
  | n + 2 => simp at hv
theorem hh_es (w : World) : Es (w.alloc (.cells #[.int .i64 0, .bool false, .int .i64 1, .int .i64 1, .int .i64 0, .int .i64 5, .int .i64 0, .bool false, .int .i64 0, .int .i64 0, .int .i64 0, .slice none 0 0, .int .i64 1, .bool false, .int .i64 4, .int .i64 1, .int .i64 0, .int .i64 0, .int .i64 0, .bool false, .int .i64 0, .int .i64 0, .int .i64 0, .slice none 0 0, .int .i64 1, .bool true, .int .i64 4, .int .i64 1, .int .i64 0, .int .i64 0, .int .i64 0, .bool true, .int .i64 1, .int .i64 5, .int .i64 0, .slice none 0 0] 36)) (some ⟨w.heap.size, 0, none⟩) 3 hh := by
  have h := Bq.new w #[.int .i64 0, .bool false, .int .i64 1, .int .i64 1, .int .i64 0, .int .i64 5, .int .i64 0, .bool false, .int .i64 0, .int .i64 0, .int .i64 0, .slice none 0 0, .int .i64 1, .bool false, .int .i64 4, .int .i64 1, .int .i64 0, .int .i64 0, .int .i64 0, .bool false, .int .i64 0, .int .i64 0, .int .i64 0, .slice none 0 0, .int .i64 1, .bool true, .int .i64 4, .int .i64 1, .int .i64 0, .int .i64 0, .int .i64 0, .bool true, .int .i64 1, .int .i64 5, .int .i64 0, .slice none 0 0] 36
  refine ⟨by decide, by decide, fun i e he => ⟨w.heap.size, 0, none, 0, rfl, ?_⟩⟩
  match i with
  | 0 =>
    simp [hh] at he; subst he
    exact ⟨fun j v hj => h.at_ (0 + 0 * 12 + j) v (by
      have hj12 : j < 12 := by have := (List.getElem?_eq_some_iff.1 hj).1; simpa [evC] using this
      match j, hj12 with
      | 0, _ | 1, _ | 2, _ | 3, _ | 4, _ | 5, _ | 6, _ | 7, _ | 8, _ | 9, _ | 10, _ | 11, _ => exact hj), Prs.nil _⟩
  | 1 =>
    simp [hh] at he; subst he
    exact ⟨fun j v hj => h.at_ (0 + 1 * 12 + j) v (by
      have hj12 : j < 12 := by have := (List.getElem?_eq_some_iff.1 hj).1; simpa [evC] using this
      match j, hj12 with
      | 0, _ | 1, _ | 2, _ | 3, _ | 4, _ | 5, _ | 6, _ | 7, _ | 8, _ | 9, _ | 10, _ | 11, _ => exact hj), Prs.nil _⟩
  | 2 =>
    simp [hh] at he; subst he
    exact ⟨fun j v hj => h.at_ (0 + 2 * 12 + j) v (by
      have hj12 : j < 12 := by have := (List.getElem?_eq_some_iff.1 hj).1; simpa [evC] using this
      match j, hj12 with
      | 0, _ | 1, _ | 2, _ | 3, _ | 4, _ | 5, _ | 6, _ | 7, _ | 8, _ | 9, _ | 10, _ | 11, _ => exact hj), Prs.nil _⟩
  | n + 3 => simp [hh] at he

end Go.Proofs.Ytadfnbmogobopaa
