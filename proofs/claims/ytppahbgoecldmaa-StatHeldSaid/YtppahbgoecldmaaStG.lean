/- Package stat: contracts of its functions (held, change, Next, Decide, After), and of osierref1's NextStat and Decide, over what Clamp makes of the policy. Conditions: the numbers that Clamp made lie within their bounds. -/
import Derived.Test.YtppahbgoecldmaaPoN
import Derived.Test.YtppahbgoecldmaaNuG
namespace Go.Proofs.Ytppahbgoecldmaa
open Go.RowKit Go.ChangeShapes Go.WideShapes Go.ChangeAt
set_option linter.all false
section
variable {w W W' : World} {b b' k : Nat} {h l c u m x : Int}
/-- A policy's five cells, which may be written. -/
structure Fv (W : World) (b : Nat) (h l c u m : Int) : Prop where
  p : Pl W b h l c u m
  f : ∀ j, j < 5 → W.frozen? ⟨b, j, none⟩ = false
theorem setO {W : World} {b j b' k : Nat} {u v : Value} (h : W.cell? ⟨b, j, none⟩ = some v) (hne : b' ≠ b ∨ k ≠ j) : (W.setCell ⟨b', k, none⟩ u).cell? ⟨b, j, none⟩ = some v :=
  (World.cell?_setCell_other _ _ _ _ (by intro e; cases e; omega)).trans h
theorem Pl.set (H : Pl W b h l c u m) (hne : b' ≠ b) (v : Value) : Pl (W.setCell ⟨b', k, none⟩ v) b h l c u m := by
  obtain ⟨h0, h1, h2, h3, h4⟩ := H
  exact ⟨setO h0 (.inl hne), setO h1 (.inl hne), setO h2 (.inl hne), setO h3 (.inl hne), setO h4 (.inl hne)⟩
theorem setS {W : World} {b j : Nat} {u v : Value} (h : W.cell? ⟨b, j, none⟩ = some v) : (W.setCell ⟨b, j, none⟩ u).cell? ⟨b, j, none⟩ = some u := World.cell?_setCell_same _ _ _ h
theorem Pl.past (H : Pl W b h l c u m) (o : Obj) : Pl (W.alloc o) b h l c u m := H.keep ((Below.refl _ _).alloc (Nat.le_refl _) _)
theorem Fv.keep (H : Fv W b h l c u m) (hb : Below W.heap.size W W') : Fv W' b h l c u m :=
  ⟨H.p.keep hb, fun j hj => (World.frozen?_of_block (a := ⟨b, j, none⟩) (hb.block b H.p.lt)).trans (H.f j hj)⟩
theorem Fv.past (H : Fv W b h l c u m) (o : Obj) : Fv (W.alloc o) b h l c u m := H.keep ((Below.refl _ _).alloc (Nat.le_refl _) _)
theorem Fv.new (w : World) (t : TypeId) : Fv (w.alloc (.cells #[.int .i64 h, .int .i64 l, .int .i64 c, .int .i64 u, .int .i64 m] t)) w.heap.size h l c u m := by
  refine ⟨Pl.new w t, fun j hj => ?_⟩
  match j, hj with
  | 0, _ | 1, _ | 2, _ | 3, _ | 4, _ => simp
theorem Fv.set0 (H : Fv W b h l c u m) : Fv (W.setCell ⟨b, 0, none⟩ (.int .i64 x)) b x l c u m := by
  obtain ⟨⟨h0, h1, h2, h3, h4⟩, f⟩ := H
  refine ⟨⟨setS h0, setO h1 (.inr (by decide)), setO h2 (.inr (by decide)), setO h3 (.inr (by decide)), setO h4 (.inr (by decide))⟩, fun j hj => ?_⟩
  rw [World.frozen?_setCell]; exact f j hj
theorem Fv.set1 (H : Fv W b h l c u m) : Fv (W.setCell ⟨b, 1, none⟩ (.int .i64 x)) b h x c u m := by
  obtain ⟨⟨h0, h1, h2, h3, h4⟩, f⟩ := H
  refine ⟨⟨setO h0 (.inr (by decide)), setS h1, setO h2 (.inr (by decide)), setO h3 (.inr (by decide)), setO h4 (.inr (by decide))⟩, fun j hj => ?_⟩
  rw [World.frozen?_setCell]; exact f j hj
theorem Fv.set2 (H : Fv W b h l c u m) : Fv (W.setCell ⟨b, 2, none⟩ (.int .i64 x)) b h l x u m := by
  obtain ⟨⟨h0, h1, h2, h3, h4⟩, f⟩ := H
  refine ⟨⟨setO h0 (.inr (by decide)), setO h1 (.inr (by decide)), setS h2, setO h3 (.inr (by decide)), setO h4 (.inr (by decide))⟩, fun j hj => ?_⟩
  rw [World.frozen?_setCell]; exact f j hj
theorem Fv.set3 (H : Fv W b h l c u m) : Fv (W.setCell ⟨b, 3, none⟩ (.int .i64 x)) b h l c x m := by
  obtain ⟨⟨h0, h1, h2, h3, h4⟩, f⟩ := H
  refine ⟨⟨setO h0 (.inr (by decide)), setO h1 (.inr (by decide)), setO h2 (.inr (by decide)), setS h3, setO h4 (.inr (by decide))⟩, fun j hj => ?_⟩
  rw [World.frozen?_setCell]; exact f j hj
theorem Fv.set4 (H : Fv W b h l c u m) : Fv (W.setCell ⟨b, 4, none⟩ (.int .i64 x)) b h l c u x := by
  obtain ⟨⟨h0, h1, h2, h3, h4⟩, f⟩ := H
  refine ⟨⟨setO h0 (.inr (by decide)), setO h1 (.inr (by decide)), setO h2 (.inr (by decide)), setO h3 (.inr (by decide)), setS h4⟩, fun j hj => ?_⟩
  rw [World.frozen?_setCell]; exact f j hj
end
/-- A policy written over, cell by cell. -/
theorem Fv.five {W : World} {b : Nat} {h l c u m h' l' c' u' m' : Int} (H : Fv W b h l c u m) : Fv (((((W.setCell ⟨b, 0, none⟩ (.int .i64 h')).setCell ⟨b, 1, none⟩ (.int .i64 l')).setCell ⟨b, 2, none⟩ (.int .i64 c')).setCell ⟨b, 3, none⟩ (.int .i64 u')).setCell ⟨b, 4, none⟩ (.int .i64 m')) b h' l' c' u' m' := H.set0.set1.set2.set3.set4
theorem below_five {w W : World} {B b : Nat} {v0 v1 v2 v3 v4 : Value} (H : Below B w W) (hb : B ≤ b) : Below B w (((((W.setCell ⟨b, 0, none⟩ v0).setCell ⟨b, 1, none⟩ v1).setCell ⟨b, 2, none⟩ v2).setCell ⟨b, 3, none⟩ v3).setCell ⟨b, 4, none⟩ v4) :=
  ((((H.setCell hb v0).setCell hb v1).setCell hb v2).setCell hb v3).setCell hb v4
/-- A stat, held. -/
def hm (n : Int) : Int := max (-1000000) (min n 1000000)
/-- What is added. -/
def chg (c u m w : Int) : Int := if w = 1 then c else if w = 2 then -u else if w = 3 then -m else 0
/-- The stat after one thing. -/
def nx (c u m s w : Int) : Int := hm (hm s + chg c u m w)
/-- The stat after all. -/
def af (c u m s : Int) (l : List Int) : Int := l.foldl (fun x w => hm (x + chg c u m w)) (hm s)
/-- What is to be done. -/
def dc (h l s : Int) : Int := if h < hm s then 1 else if hm s < l then 2 else 0
theorem hm_lo (n : Int) : -1000000 ≤ hm n := by unfold hm; omega
theorem hm_hi (n : Int) : hm n ≤ 1000000 := by unfold hm; omega
theorem hm_hm (n : Int) : hm (hm n) = hm n := by unfold hm; omega
/-- What Clamp made. -/
structure Bd (h l c u m : Int) : Prop where
  h0 : 1 ≤ h
  h1 : h ≤ 100000
  l0 : -100000 ≤ l
  l1 : l ≤ 0
  c0 : -100000 ≤ c
  c1 : c ≤ 100000
  u0 : -100000 ≤ u
  u1 : u ≤ 100000
  m0 : -100000 ≤ m
  m1 : m ≤ 100000
theorem Cl.bd {h l c u m h' l' c' u' m' : Int} (e : Cl h l c u m h' l' c' u' m') : Bd h' l' c' u' m' := by
  obtain ⟨rfl, rfl, rfl, rfl, rfl⟩ := e
  constructor <;> unfold wi <;> omega
theorem held_any (n : Int) (w : World) :
    Calls Try.prog 19 #[.int .i64 n] w fun e w' => e = .returned (.int .i64 (hm n)) ∧ w' = w := by
  go_enter Try.func19, Try.ntmps19
  go_wp2
  all_goals
    go_ret
    refine ⟨congrArg (fun x => Ending.returned (Value.int .i64 x)) ?_, rfl⟩
    unfold hm
    omega
theorem rhold_any (n : Int) (w : World) :
    Calls Try.prog 17 #[.int .i64 n, .int .i64 (-1000000), .int .i64 1000000] w fun e w' => e = .returned (.int .i64 (hm n)) ∧ w' = w :=
  hold_any (-1000000) n 1000000 w
set_option maxHeartbeats 3200000 in
theorem change_any (h l c u m k : Int) (B : Bd h l c u m) (w : World) :
    Calls Try.prog 20 #[.agg #[.int .i64 h, .int .i64 l, .int .i64 c, .int .i64 u, .int .i64 m], .int .i64 k] w fun e w' => e = .returned (.int .i64 (chg c u m k)) ∧ Below w.heap.size w w' := by
  obtain ⟨h0, h1, l0, l1, c0, c1, u0, u1, m0, m1⟩ := B
  by_cases k1 : k = 1
  · subst k1
    go_enter Try.func20, Try.ntmps20
    go_wp2_with (fail)
    go_ret
    exact ⟨rfl, (Below.refl _ _).alloc (Nat.le_refl _) _⟩
  by_cases k2 : k = 2
  · subst k2
    go_enter Try.func20, Try.ntmps20
    go_wp2_with (fail)
    go_ret
    exact ⟨rfl, (Below.refl _ _).alloc (Nat.le_refl _) _⟩
  by_cases k3 : k = 3
  · subst k3
    go_enter Try.func20, Try.ntmps20
    go_wp2_with (fail)
    go_ret
    exact ⟨rfl, (Below.refl _ _).alloc (Nat.le_refl _) _⟩
  have e : chg c u m k = 0 := by unfold chg; rw [if_neg k1, if_neg k2, if_neg k3]
  have HE := Lib.hid e
  clear e
  go_enter Try.func20, Try.ntmps20
  go_wp2_with (fail)
  go_ret
  rw [HE.out]
  exact ⟨rfl, (Below.refl _ _).alloc (Nat.le_refl _) _⟩
end Go.Proofs.Ytppahbgoecldmaa
