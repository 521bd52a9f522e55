/- osierref18.Ends exactly. No condition: lemmas. -/
import Derived.Test.YtadfnbmogobopaaOrD
import Derived.Test.YtadfnbmogobopaaOrE
import Derived.Test.YtadfnbmogobopaaLrD
namespace Go.Proofs.Ytadfnbmogobopaa
open Go.RowKit
set_option linter.all false
set_option maxRecDepth 20000

/-- Each place names a call that was not refused. -/
def okN (L : List ClD) (l : List Int) : Prop := ∀ i ∈ l, inR L i ∧ ¬ rfd (cAt L i)
/-- How often: each once; of each call whether it is named. -/
structure Nam (L : List ClD) (l : List Int) (F : Nat → Int) : Prop where
  ok : okN L l
  nd : l.Nodup
  is : ∀ j, j < L.length → (F j = 0 ↔ nmB l j = false)
theorem Nam.nil (L : List ClD) : Nam L [] (fun _ => 0) := ⟨fun i hi => by simp at hi, by simp, fun j hj => by simp [nmB]⟩
theorem Nam.more {L : List ClD} {l : List Int} {F : Nat → Int} (h : Nam L l F) {j : Nat} (hr : inR L (j : Int)) (hf : ¬ rfd (cAt L (j : Int))) (hn : nmB l j = false) {v : Int} (hv : ¬ v = 0) : Nam L (l ++ [(j : Int)]) (fun i => if i = j then v else F i) := by
  refine ⟨fun i hi => ?_, ?_, fun i hi => ?_⟩
  · rcases List.mem_append.1 hi with h1 | h1
    · exact h.ok i h1
    · rw [List.mem_singleton.1 h1]; exact ⟨hr, hf⟩
  · rw [List.nodup_append]
    refine ⟨h.nd, by simp, fun y hy z hz => ?_⟩
    rw [List.mem_singleton.1 hz]
    rintro rfl
    exact of_decide_eq_false hn hy
  · rw [nmB_snoc]
    by_cases e : i = j
    · subst e; simp [hv]
    · simp only [if_neg e]; exact h.is i hi
/-- None that must be is missing among the first n. -/
def mstN (L : List ClD) (l : List Int) (n : Nat) : Prop := ∀ i : Nat, i < n → must (L.getD i zCl) → nmB l i = true
theorem mst_step {L : List ClD} {l : List Int} {n : Nat} : mstN L l (n + 1) ↔ mstN L l n ∧ (must (L.getD n zCl) → nmB l n = true) := by
  constructor
  · intro h; exact ⟨fun i hi => h i (by omega), h n (by omega)⟩
  · rintro ⟨h1, h2⟩ i hi
    rcases Nat.lt_or_ge i n with h | h
    · exact h1 i h
    · rw [show i = n by omega]; exact h2
theorem nms_of {L : List ClD} {l : List Int} {F : Nat → Int} (h : Nam L l F) : Nms L l ↔ mstN L l L.length := by
  constructor
  · intro k i hi hm; exact decide_eq_true (k.all i hi hm)
  · intro k; exact ⟨fun i hi => (h.ok i hi).1, h.nd, fun i hi => (h.ok i hi).2, fun i hi hm => of_decide_eq_true (k i hi hm)⟩
/-- None behind the first n is before one of these. -/
def inF (D : List ClD) (N n : Nat) : Prop := ∀ i, i < n → ∀ j, i < j → j < N → ¬ bef (D.getD j zCl) (D.getD i zCl)
theorem inF_all {D : List ClD} {N : Nat} : inF D N N ↔ inT D N := ⟨fun h i j hij hj => h i (by omega) j hij hj, fun h i hi j hij hj => h i j hij hj⟩
theorem inF_step {D : List ClD} {N n : Nat} (h : inF D N n) (k : ∀ q, q < N - (n + 1) → ¬ bef (D.getD (n + 1 + q) zCl) (D.getD n zCl)) : inF D N (n + 1) := fun i hi j hij hj => by
  rcases Nat.lt_or_ge i n with h1 | h1
  · exact h i h1 j hij hj
  · obtain rfl : i = n := by omega
    have := k (j - (i + 1)) (by omega)
    rwa [show i + 1 + (j - (i + 1)) = j by omega] at this
theorem drop_at {l : List Int} {n q : Nat} {x : Int} (h : (l.drop (n + 1))[q]? = some x) : l[n + 1 + q]? = some x := by rwa [List.getElem?_drop] at h

end Go.Proofs.Ytadfnbmogobopaa
