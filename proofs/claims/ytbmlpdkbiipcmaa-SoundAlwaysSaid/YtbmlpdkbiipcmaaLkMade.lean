/- Contract of osierlaw5.made: an arena with the treap of keys 1, 2, 3. -/
import Derived.Test.YtbmlpdkbiipcmaaNtG
namespace Go.Proofs.Ytbmlpdkbiipcmaa
open Go.RowKit
set_option linter.all false

def madeL : List Pr := [(1, 5), (2, 6), (3, 7)]
theorem madeL_srt : Srt madeL := by unfold Srt madeL; simp

def MadeSays (w : World) (e : Ending) (w' : World) : Prop :=
  ∃ (p : Nat) (t : Int) (L : List It), e = .returned (.tuple #[.pointer (some ⟨p, 0, none⟩), .int .i64 t]) ∧ Held w w' p 100 0 L ∧ L.length = 3 ∧ Tree L t madeL ∧ Good L

theorem lit_prs (w : World) : Prs (w.alloc (.cells #[.int .i64 1, .int .i64 5, .int .i64 2, .int .i64 6, .int .i64 3, .int .i64 7] 24)) (some ⟨w.heap.size, 0, none⟩) 3 madeL := by
  refine ⟨by decide, by unfold maxLen; decide, fun n q hq => ⟨w.heap.size, 0, rfl, ?_⟩⟩
  unfold madeL at hq
  match n with
  | 0 => simp at hq; subst hq; simp
  | 1 => simp at hq; subst hq; simp
  | 2 => simp at hq; subst hq; simp
  | n + 3 => simp at hq

theorem laid_lit (w w1 : World) (p : Nat) (x : Value) (hp : p < w1.heap.size) (hw : w.heap.size ≤ p) (hb : Below w.heap.size w w1) (hA : Arena w1 p (fun k => k = p) 100 0 [])
    (hx : x = .slice (some ⟨w1.heap.size, 0, none⟩) 3 3) :
    Calls Try.prog 9 #[.pointer (some ⟨p, 0, none⟩), x] (w1.alloc (.cells #[.int .i64 1, .int .i64 5, .int .i64 2, .int .i64 6, .int .i64 3, .int .i64 7] 24)) fun e w' =>
      ∃ (t : Int) (L : List It), e = .returned (.tuple #[.int .i64 t, .bool true]) ∧ Held w w' p 100 0 L ∧ L.length = 3 ∧ Tree L t madeL ∧ Good L := by
  subst hx
  have ha : Below w1.heap.size w1 (w1.alloc (.cells #[.int .i64 1, .int .i64 5, .int .i64 2, .int .i64 6, .int .i64 3, .int .i64 7] 24)) := (Below.refl _ _).alloc (Nat.le_refl _) _
  have h0 : HeldS (fun k => k = p) (w1.alloc (.cells #[.int .i64 1, .int .i64 5, .int .i64 2, .int .i64 6, .int .i64 3, .int .i64 7] 24)) (w1.alloc (.cells #[.int .i64 1, .int .i64 5, .int .i64 2, .int .i64 6, .int .i64 3, .int .i64 7] 24)) p 100 0 [] :=
    ⟨(hA.below ha).mono (fun k hk _ => .inl hk), Only.refl _ _⟩
  refine (laidS_any (fun k => k = p) _ p 100 0 3 (some ⟨w1.heap.size, 0, none⟩) 3 madeL _ [] (by decide) (lit_prs w1) (fun b o e => by cases e; omega) h0 Good.nil (by decide) (by decide)).mono ?_
  rintro e w' ⟨t, L', rfl, hH, hl, hT, hG⟩
  rw [List.nil_append] at hH hT hG
  have hbw := hb.trans (ha.mono hb.size)
  exact ⟨t, L', rfl, ⟨hH.a.mono (fun k hk _ => by
    rcases hk with rfl | hk
    · exact hw
    · exact Nat.le_trans hbw.size hk), hbw.trans ((hH.b.below (B := w.heap.size) (fun i hi => by subst hi; exact hw) hbw.size))⟩, hl, hT, hG⟩

end Go.Proofs.Ytbmlpdkbiipcmaa
