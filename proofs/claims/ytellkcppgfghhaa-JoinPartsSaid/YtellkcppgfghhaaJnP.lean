/- An arena beside a row of numbers of one's own: parting, joining, appending; a row of pairs parted is the row. -/
import Derived.Test.YtellkcppgfghhaaJnZ
import Derived.Test.YtellkcppgfghhaaPaG
namespace Go.Proofs.Ytellkcppgfghhaa
open Go.RowKit
set_option linter.all false

theorem lo_ge {l : List Pr} (hs : Srt l) (k : Int) : loL l k ++ geL l k = l := by
  induction l with
  | nil => rfl
  | cons z l ih =>
    have hs' : Srt l := (List.pairwise_cons.1 hs).2
    have hz := (List.pairwise_cons.1 hs).1
    by_cases h : z.1 < k
    · have e1 : loL (z :: l) k = z :: loL l k := by unfold loL; rw [List.filter_cons_of_pos (by simpa using h)]
      have e2 : geL (z :: l) k = geL l k := by unfold geL; rw [List.filter_cons_of_neg (by simp; omega)]
      rw [e1, e2, List.cons_append, ih hs']
    · have h' : ∀ x ∈ z :: l, k ≤ x.1 := by
        intro x hx
        rcases List.mem_cons.1 hx with rfl | hx
        · omega
        · have := hz x hx; omega
      rw [loL_none h', geL_all h', List.nil_append]

section
variable {w W W' : World} {p : Nat} {F : Nat → Prop} {room st : Int} {L : List It} {t l r : Int}
theorem part_okA {m : List Pr} (hA : Arena w p F room st L) (T : Tree L t m) (hs : Srt m) (hl : m.length ≤ 1000) (hr : ((L.length + hi m : Nat) : Int) ≤ room) (k : Int) :
    Calls Try.prog 26 #[.pointer (some ⟨p, 0, none⟩), .int .i64 t, .int .i64 k] w fun e w' =>
      ∃ (x y : Int) (M : List It), e = .returned (.tuple #[.int .i64 x, .int .i64 y, .int .i64 0]) ∧ Grew w p F room st (L ++ M) w' ∧ M.length ≤ hi m ∧ Tree (L ++ M) x (loL m k) ∧ Tree (L ++ M) y (geL m k) := by
  refine (pat_any hA T hs hl).mono ?_
  rintro e w' ⟨x, y, er, M, rfl, hg, ⟨rfl, hc⟩ | ⟨rfl, hr2, hM, _⟩⟩
  · exact ⟨x, y, M, rfl, hg, hc⟩
  · exfalso; rw [List.length_append] at hr2; omega
theorem two_okA {A B : List Pr} (hA : Arena w p F room st L) (TA : Tree L l A) (TB : Tree L r B) (hl : A.length + B.length ≤ 1000) (hs : Srt (A ++ B)) (hr : ((L.length + (hi A + hi B) : Nat) : Int) ≤ room) :
    Calls Try.prog 24 #[.pointer (some ⟨p, 0, none⟩), .int .i64 l, .int .i64 r] w fun e w' =>
      ∃ (n : Int) (M : List It), e = .returned (.tuple #[.int .i64 n, .int .i64 0]) ∧ Grew w p F room st (L ++ M) w' ∧ M.length ≤ hi A + hi B ∧ Tree (L ++ M) n (A ++ B) := by
  refine (two_any hA TA TB hl hs).mono ?_
  rintro e w' ⟨n, er, M, rfl, hg, hq⟩
  rcases hq with ⟨rfl, hM, hT⟩ | ⟨rfl, hr2, hM⟩
  · exact ⟨n, M, rfl, hg, hM, hT⟩
  · exfalso
    rw [List.length_append] at hr2; omega
end

/-- A row's own blocks stand aside, whatever its name for them. -/
theorem Nums.self {w : World} {S : Nat → Prop} {v : Value} {l : List Int} (h : Nums w S v l) : Nums w (fun k => v.ownBlock ≠ some k) v l := ⟨h.row, fun k hk hs => hs hk⟩

/-- An arena of these items, a row of numbers beside it that lies in none of its blocks, and blocks Kp that are nobody's. -/
structure JS (W2 : World) (Kp S : Nat → Prop) (p : Nat) (wr : World) (LL : List It) (v : Value) (ts : List Int) : Prop where
  a : Arena wr p (fun k => W2.heap.size ≤ k ∧ ¬ Kp k ∧ v.ownBlock ≠ some k) 60000 0 LL
  r : Nums wr S v ts
  o : Below W2.heap.size W2 wr
section
variable {W2 wr w' : World} {Kp S : Nat → Prop} {p : Nat} {LL L' : List It} {v : Value} {ts : List Int}
theorem JS.below (h : JS W2 Kp S p wr LL v ts) (hb : Below wr.heap.size wr w') : JS W2 Kp S p w' LL v ts := ⟨h.a.below hb, h.r.below hb, h.o.trans (hb.mono h.o.size)⟩
theorem JS.grew (h : JS W2 Kp S p wr LL v ts) (m : Grew wr p (fun k => W2.heap.size ≤ k ∧ ¬ Kp k ∧ v.ownBlock ≠ some k) 60000 0 L' w') (hK : ∀ k, Kp k → k < wr.heap.size) : JS W2 Kp S p w' L' v ts := by
  refine ⟨m.1.mono (fun k hk _ => ?_), ⟨m.2.row h.r.row (fun k hk hf => hf.2.2 hk), h.r.av⟩, h.o.trans (m.2.below (B := W2.heap.size) (fun k hk => hk.1) h.o.size)⟩
  rcases hk with hk | hk
  · exact hk
  · exact ⟨Nat.le_trans h.o.size hk.1, fun hp => by have := hK k hp; omega, fun e => by have := (h.r.row.lt k e).2; omega⟩
theorem JS.nums {x : Value} {xs : List Int} (h : JS W2 Kp S p wr LL v ts) (m : Only (fun k => W2.heap.size ≤ k ∧ ¬ Kp k ∧ v.ownBlock ≠ some k) wr w') (hx : Nums wr (fun k => x.ownBlock ≠ some k) x xs) (hK : ∀ k, x.ownBlock = some k → Kp k) : Nums w' (fun k => x.ownBlock ≠ some k) x xs :=
  hx.only m (fun k hk e => hk.2.1 (hK k e))
/-- Another row, all new, is put into the row's place. -/
theorem JS.anew {v' : Value} {ts' : List Int} (h : JS W2 Kp S p wr LL v ts) (hb : Below wr.heap.size wr w') (hr : Nums w' (fun j => j < wr.heap.size) v' ts') (hS : ∀ k, S k → k < wr.heap.size) : JS W2 Kp S p w' LL v' ts' :=
  ⟨(h.a.mono (G := fun k => W2.heap.size ≤ k ∧ ¬ Kp k ∧ v'.ownBlock ≠ some k) (fun k hk hlt => ⟨hk.1, hk.2.1, fun e => hr.av k e hlt⟩)).below hb, hr.sub (fun k _ hk => hS k hk), h.o.trans (hb.mono h.o.size)⟩
/-- The row grows. -/
theorem JS.more {v' : Value} {ts' : List Int} (h : JS W2 Kp S p wr LL v ts) (hr : Nums w' (fun j => j < wr.heap.size ∧ v.ownBlock ≠ some j) v' ts') (o : Only (fun k => ¬ (k < wr.heap.size ∧ v.ownBlock ≠ some k)) wr w')
    (hS : ∀ k, S k → k < wr.heap.size) (hw : ∀ k, k < W2.heap.size → S k) : JS W2 Kp S p w' LL v' ts' := by
  have a1 := h.a.mono (G := fun k => W2.heap.size ≤ k ∧ ¬ Kp k ∧ v.ownBlock ≠ some k ∧ k < wr.heap.size) (fun k hk hlt => ⟨hk.1, hk.2.1, hk.2.2, hlt⟩)
  refine ⟨(a1.only o (fun k hk hlt hn => hn ⟨hlt, hk.2.2.1⟩)).mono (fun k hk _ => ⟨hk.1, hk.2.1, fun e => hr.av k e ⟨hk.2.2.2, hk.2.2.1⟩⟩), hr.sub (fun k _ hk => ⟨hS k hk, fun e => h.r.av k e hk⟩), h.o.trans (o.below (B := W2.heap.size) (fun k hk => Nat.le_of_not_lt fun hlt => hk ⟨Nat.lt_of_lt_of_le hlt h.o.size, fun e => h.r.av k e (hw k hlt)⟩) h.o.size)⟩
end
end Go.Proofs.Ytellkcppgfghhaa
