/- put's Put and Add, over the treap of sorted pairs. -/
import Derived.Test.YtmbeaefgakfbnaaPt5
import Derived.Test.YtmbeaefgakfbnaaLkT
namespace Go.Proofs.Ytmbeaefgakfbnaa
open Go.RowKit
set_option linter.all false

/-- What Put tells: the treap with a key more, what was there; or no room. -/
def PutSays (w : World) (p : Nat) (F : Nat → Prop) (room st : Int) (L : List It) (k v : Int) (l : List Pr) (e : Ending) (w' : World) : Prop :=
  ∃ (n old er : Int) (there : Bool) (M : List It), e = .returned (.tuple #[.int .i64 n, .int .i64 old, .bool there, .int .i64 er]) ∧ Grew w p F room st (L ++ M) w' ∧
    ((er = 0 ∧ M.length ≤ hi l + 1 ∧ Tree (L ++ M) n (withL l k v) ∧ old = ((findL l k).map (·.2)).getD 0 ∧ there = (findL l k).isSome) ∨
     (er = 2 ∧ n = 0 ∧ old = 0 ∧ there = false ∧ room = ((L ++ M).length : Nat) ∧ M.length ≤ hi l))

section
variable {w W W' : World} {p : Nat} {F : Nat → Prop} {room st : Int} {L : List It} {t k v : Int} {l : List Pr}

set_option maxRecDepth 100000 in
set_option maxHeartbeats 3200000 in
theorem put_any (hA : Arena w p F room st L) (T : Tree L t l) (hs : Srt l) (hl : l.length ≤ 990) :
    Calls Try.prog 12 #[.pointer (some ⟨p, 0, none⟩), .int .i64 t, .agg #[.int .i64 k, .int .i64 v]] w (PutSays w p F room st L k v l) := by
  have ba : ∀ o, Below w.heap.size w (w.alloc o) := fun o => (Below.refl _ _).alloc (Nat.le_refl _) _
  have W1 := Wk.begin (b := w.heap.size) (c := w.heap.size) hA (ba (.cells #[.int .i64 k, .int .i64 v] 24)) (Nat.le_refl _) (Nat.le_refl _) (by simp) (by simp)
  have T1 := Two.new w k v 24
  have ct := isTreap_is W1.a t true ⟨fun _ => (T.hung (by omega)).1.ok, fun _ => rfl⟩
  have cw := fun W G (hW : Arena W p G room st L) => with_put p room st k v _ l W t L G (Nat.le_refl _) hs hl T hW
  have cg := fun W G (M : List It) (hW : Arena W p G room st (L ++ M)) => lget_any t k W (Gets.ofArena hW) _ _ rfl rfl
  have eg := fun M => get_tree (T.app M) k hs
  have CG := Lib.hid cg
  have EG := Lib.hid eg
  clear cg eg T hs hl hA ba
  go_enter Try.func12, Try.ntmps12
  go_wp2_with (go_at_call 24; ((with_reducible refine ct.mono ?_); clear ct; rintro e w1 ⟨rfl, hb⟩; have W2 := W1.below hb; have T2 := T1.keep hb; have d0 := T2.c0; have d1 := T2.c1; clear hb W1 T1))
  refine (cw _ _ W2.a).mono ?_
  clear cw
  rintro e w2 ⟨n, er, M, rfl, hg, hc⟩
  have W3 := W2.go hg
  have T3 := Wk.two hg T2
  have e0 := T3.c0
  have e1 := T3.c1
  clear hg T2 W2
  rcases hc with ⟨rfl, hM, hT⟩ | ⟨rfl, hr, hM⟩
  · have HC := Lib.hid (And.intro hM hT)
    clear hM hT
    go_wp2_with (go_at_call 20; ((with_reducible refine (CG.out _ _ M W3.a).mono ?_); rintro e w3 ⟨rfl, hb⟩))
    refine bodyPost_ret (v := .tuple #[.int .i64 n, .int .i64 ((getL (L ++ M) t k).getD 0), .bool (getL (L ++ M) t k).isSome, .int .i64 0]) (by simp [results, Try.results12, go_sem]) rfl ?_
    refine ⟨n, _, 0, _, M, rfl, (W3.below hb).grew, .inl ⟨rfl, HC.out.1, HC.out.2, ?_, ?_⟩⟩
    · rw [EG.out M]
    · rw [EG.out M, Option.isSome_map]
  · have HC := Lib.hid (And.intro hr hM)
    clear hr hM
    go_wp2_with (fail)
    refine bodyPost_ret (v := .tuple #[.int .i64 0, .int .i64 0, .bool false, .int .i64 2]) (by simp [results, Try.results12, go_sem]) rfl ?_
    exact ⟨0, 0, 2, false, M, rfl, W3.grew, .inr ⟨rfl, rfl, rfl, rfl, HC.out⟩⟩

/-- Put of what is no treap, or without an arena. -/
theorem put_arg (q : Option Addr) (t k v : Int) (w : World)
    (ct : ∀ W, Below w.heap.size w W → Calls Try.prog 24 #[.pointer q, .int .i64 t] W fun e w' => e = .returned (.bool false) ∧ Below W.heap.size W w') :
    Calls Try.prog 12 #[.pointer q, .int .i64 t, .agg #[.int .i64 k, .int .i64 v]] w fun e w' => e = .returned (.tuple #[.int .i64 0, .int .i64 0, .bool false, .int .i64 1]) ∧ Below w.heap.size w w' := by
  have ba : ∀ o, Below w.heap.size w (w.alloc o) := fun o => (Below.refl _ _).alloc (Nat.le_refl _) _
  go_enter Try.func12, Try.ntmps12
  go_wp2_with (go_at_call 24; ((with_reducible refine (ct _ (ba _)).mono ?_); clear ct; rintro e w1 ⟨rfl, hb⟩))
  refine bodyPost_ret (v := .tuple #[.int .i64 0, .int .i64 0, .bool false, .int .i64 1]) (by simp [results, Try.results12, go_sem]) rfl ?_
  exact ⟨rfl, below_past (Below.refl _ w) hb⟩
theorem put_nil (t k v : Int) (w : World) :
    Calls Try.prog 12 #[.pointer none, .int .i64 t, .agg #[.int .i64 k, .int .i64 v]] w fun e w' => e = .returned (.tuple #[.int .i64 0, .int .i64 0, .bool false, .int .i64 1]) ∧ Below w.heap.size w w' :=
  put_arg none t k v w (fun W _ => isTreap_nil W t)
theorem put_no (hA : Arena w p F room st L) (t k v : Int) (ht : ¬ HungOk L t) :
    Calls Try.prog 12 #[.pointer (some ⟨p, 0, none⟩), .int .i64 t, .agg #[.int .i64 k, .int .i64 v]] w fun e w' => e = .returned (.tuple #[.int .i64 0, .int .i64 0, .bool false, .int .i64 1]) ∧ Below w.heap.size w w' :=
  put_arg _ t k v w (fun W hb => isTreap_is (hA.below hb) t false ⟨fun h => Bool.noConfusion h, fun h => absurd h ht⟩)

/-! ### Add -/

set_option maxRecDepth 100000 in
set_option maxHeartbeats 3200000 in
/-- Add where the key is there. -/
theorem add_there (q : Option Addr) (t k v old : Int) (w : World)
    (cg : ∀ W, Below w.heap.size w W → Calls Try.prog 20 #[.pointer q, .int .i64 t, .int .i64 k] W fun e w' => e = .returned (.tuple #[.int .i64 old, .bool true]) ∧ Below W.heap.size W w') :
    Calls Try.prog 11 #[.pointer q, .int .i64 t, .agg #[.int .i64 k, .int .i64 v]] w fun e w' => e = .returned (.tuple #[.int .i64 t, .int .i64 old, .bool true, .int .i64 0]) ∧ Below w.heap.size w w' := by
  have ba : ∀ o, Below w.heap.size w (w.alloc o) := fun o => (Below.refl _ _).alloc (Nat.le_refl _) _
  go_enter Try.func11, Try.ntmps11
  go_wp2_with (go_at_call 20; ((with_reducible refine (cg _ (ba _)).mono ?_); clear cg; rintro e w1 ⟨rfl, hb⟩))
  refine bodyPost_ret (v := .tuple #[.int .i64 t, .int .i64 old, .bool true, .int .i64 0]) (by simp [results, Try.results11, go_sem]) rfl ?_
  exact ⟨rfl, below_past (Below.refl _ w) hb⟩
set_option maxRecDepth 100000 in
set_option maxHeartbeats 3200000 in
/-- Add where the key is not there: it is Put. -/
theorem add_put (q : Option Addr) (t k v v0 : Int) (w : World) (R : Int → Int → Bool → Int → World → Prop)
    (cg : ∀ W, Below w.heap.size w W → Calls Try.prog 20 #[.pointer q, .int .i64 t, .int .i64 k] W fun e w' => e = .returned (.tuple #[.int .i64 v0, .bool false]) ∧ Below W.heap.size W w')
    (cp : ∀ W, Below w.heap.size w W → Calls Try.prog 12 #[.pointer q, .int .i64 t, .agg #[.int .i64 k, .int .i64 v]] W fun e w' => ∃ n old there er, e = .returned (.tuple #[.int .i64 n, .int .i64 old, .bool there, .int .i64 er]) ∧ R n old there er w') :
    Calls Try.prog 11 #[.pointer q, .int .i64 t, .agg #[.int .i64 k, .int .i64 v]] w fun e w' => ∃ n old there er, e = .returned (.tuple #[.int .i64 n, .int .i64 old, .bool there, .int .i64 er]) ∧ R n old there er w' := by
  have ba : ∀ o, Below w.heap.size w (w.alloc o) := fun o => (Below.refl _ _).alloc (Nat.le_refl _) _
  go_enter Try.func11, Try.ntmps11
  go_wp2_with (first
    | (go_at_call 20; ((with_reducible refine (cg _ (ba _)).mono ?_); clear cg; rintro e w1 ⟨rfl, hb⟩; have b1 := below_past (Below.refl _ w) hb; have T0 := (Two.new w k v 24).keep hb; have d0 := T0.c0; have d1 := T0.c1; clear T0 hb))
    | (go_at_call 12; ((with_reducible refine (cp _ b1).mono ?_); clear cp; rintro e w2 ⟨n, old, there, er, rfl, hR⟩)))
  refine bodyPost_ret (v := .tuple #[.int .i64 n, .int .i64 old, .bool there, .int .i64 er]) (by simp [results, Try.results11, go_sem]) rfl ?_
  exact ⟨n, old, there, er, rfl, hR⟩
end
end Go.Proofs.Ytmbeaefgakfbnaa
