/- Contract of sound.May over any arena; what it tells of the treap of sorted pairs. -/
import Derived.Test.YtbmlpdkbiipcmaaSoF
namespace Go.Proofs.Ytbmlpdkbiipcmaa
open Go.RowKit
set_option linter.all false

set_option maxRecDepth 100000 in
set_option maxHeartbeats 6400000 in
theorem smay_any {w : World} {p : Nat} {F : Nat → Prop} {room st : Int} {L : List It} (hA : Arena w p F room st L) (t : Int) (B : Bool) (hB : mayL L t = B) :
    Calls Try.prog 10 #[.pointer (some ⟨p, 0, none⟩), .int .i64 t] w fun e w' => e = .returned (.bool B) ∧ Below w.heap.size w w' := by
  subst hB
  unfold mayL
  by_cases h0 : t = 0
  · rw [if_pos h0]
    subst h0
    clear hA
    go_enter Try.func10, Try.ntmps10
    go_wp2_with (fail)
    go_ret
    exact ⟨rfl, Below.refl _ _⟩
  · rw [if_neg h0]
    have h0' : (t == 0) = false := by simp [h0]
    have ba : Below w.heap.size w (w.alloc (.cells #[.pointer (some ⟨p, 0, none⟩), .int .i64 1200, .bool false, .int .i64 0] 69)) := (Below.refl _ _).alloc (Nat.le_refl _) _
    have hC : Cs (w.alloc (.cells #[.pointer (some ⟨p, 0, none⟩), .int .i64 1200, .bool false, .int .i64 0] 69)) w.heap.size (some ⟨p, 0, none⟩) 1200 false 0 := by
      constructor <;> simp
    have cf := cfrom_any (Gets.ofArena hA) (Nat.le_refl w.heap.size) t.toNat t ⟨1200, false, 0⟩ _ (by omega) (by decide) hC ba
    generalize frm L t.toNat t ⟨1200, false, 0⟩ = r at cf ⊢
    obtain ⟨⟨n0, n1, n2, n3, n4, n5⟩, ok, σ'⟩ := r
    clear hC hA h0
    go_enter Try.func10, Try.ntmps10
    go_wp2_with (first | (go_at_call 31; ((with_reducible refine cf.mono ?_); clear cf; rintro e w2 ⟨rfl, -, ho⟩)))
    go_ret
    have hb := ba.trans ((ho.below (B := w.heap.size) (fun i hi => Nat.le_of_eq hi.symm) ba.size))
    exact ⟨rfl, hb.alloc hb.size _⟩
end Go.Proofs.Ytbmlpdkbiipcmaa
