/- Package stat: contracts of its functions (held, change, Next, Decide, After), and of osierref1's NextStat and Decide, over what Clamp makes of the policy. Conditions: the numbers that Clamp made lie within their bounds. stat.After, stat.Next and osierref1.NextStat beside trees' words. Conditions: as in StA. -/
import Derived.Test.YtijepfabkalcoaaPoG
import Derived.Test.YtijepfabkalcoaaNuG
namespace Go.Proofs.Ytijepfabkalcoaa
open Go.RowKit Go.ChangeShapes Go.WideShapes Go.ChangeAt
set_option linter.all false
section
variable {w W W' : World} {b b' k : Nat} {h l c u m x : Int}
/-- A policy's five cells, which may be written. -/
structure Fv (W : World) (b : Nat) (h l c u m : Int) : Prop where
  p : Pl W b h l c u m
  f : ∀ j, j < 5 → W.frozen? ⟨b, j, none⟩ = false
theorem psetO {W : World} {b j b' k : Nat} {u v : Value} (h : W.cell? ⟨b, j, none⟩ = some v) (hne : b' ≠ b ∨ k ≠ j) : (W.setCell ⟨b', k, none⟩ u).cell? ⟨b, j, none⟩ = some v :=
  (World.cell?_setCell_other _ _ _ _ (by intro e; cases e; omega)).trans h
theorem Pl.set (H : Pl W b h l c u m) (hne : b' ≠ b) (v : Value) : Pl (W.setCell ⟨b', k, none⟩ v) b h l c u m := by
  obtain ⟨h0, h1, h2, h3, h4⟩ := H
  exact ⟨psetO h0 (.inl hne), psetO h1 (.inl hne), psetO h2 (.inl hne), psetO h3 (.inl hne), psetO h4 (.inl hne)⟩
theorem psetS {W : World} {b j : Nat} {u v : Value} (h : W.cell? ⟨b, j, none⟩ = some v) : (W.setCell ⟨b, j, none⟩ u).cell? ⟨b, j, none⟩ = some u := World.cell?_setCell_same _ _ _ h
theorem Pl.past (H : Pl W b h l c u m) (o : Obj) : Pl (W.alloc o) b h l c u m := H.keep ((Below.refl _ _).alloc (Nat.le_refl _) _)
theorem Fv.keep (H : Fv W b h l c u m) (hb : Below W.heap.size W W') : Fv W' b h l c u m :=
  ⟨H.p.keep hb, fun j hj => (World.frozen?_of_block (a := ⟨b, j, none⟩) (hb.block b H.p.lt)).trans (H.f j hj)⟩
theorem Fv.past (H : Fv W b h l c u m) (o : Obj) : Fv (W.alloc o) b h l c u m := H.keep ((Below.refl _ _).alloc (Nat.le_refl _) _)
theorem Fv.new (w : World) (t : TypeId) : Fv (w.alloc (.cells #[.int .i64 h, .int .i64 l, .int .i64 c, .int .i64 u, .int .i64 m] t)) w.heap.size h l c u m := by
  refine ⟨Pl.new w t, fun j hj => ?_⟩
  match j, hj with
  | 0, _ | 1, _ | 2, _ | 3, _ | 4, _ => simp
theorem Fv.set0 (H : Fv W b h l c u m) : Fv (W.setCell ⟨b, 0, none⟩ (.int .i64 x)) b x l c u m := by
  obtain ⟨⟨h0, h1, h2, h3, h4⟩, f⟩ := H
  refine ⟨⟨psetS h0, psetO h1 (.inr (by decide)), psetO h2 (.inr (by decide)), psetO h3 (.inr (by decide)), psetO h4 (.inr (by decide))⟩, fun j hj => ?_⟩
  rw [World.frozen?_setCell]; exact f j hj
theorem Fv.set1 (H : Fv W b h l c u m) : Fv (W.setCell ⟨b, 1, none⟩ (.int .i64 x)) b h x c u m := by
  obtain ⟨⟨h0, h1, h2, h3, h4⟩, f⟩ := H
  refine ⟨⟨psetO h0 (.inr (by decide)), psetS h1, psetO h2 (.inr (by decide)), psetO h3 (.inr (by decide)), psetO h4 (.inr (by decide))⟩, fun j hj => ?_⟩
  rw [World.frozen?_setCell]; exact f j hj
theorem Fv.set2 (H : Fv W b h l c u m) : Fv (W.setCell ⟨b, 2, none⟩ (.int .i64 x)) b h l x u m := by
  obtain ⟨⟨h0, h1, h2, h3, h4⟩, f⟩ := H
  refine ⟨⟨psetO h0 (.inr (by decide)), psetO h1 (.inr (by decide)), psetS h2, psetO h3 (.inr (by decide)), psetO h4 (.inr (by decide))⟩, fun j hj => ?_⟩
  rw [World.frozen?_setCell]; exact f j hj
theorem Fv.set3 (H : Fv W b h l c u m) : Fv (W.setCell ⟨b, 3, none⟩ (.int .i64 x)) b h l c x m := by
  obtain ⟨⟨h0, h1, h2, h3, h4⟩, f⟩ := H
  refine ⟨⟨psetO h0 (.inr (by decide)), psetO h1 (.inr (by decide)), psetO h2 (.inr (by decide)), psetS h3, psetO h4 (.inr (by decide))⟩, fun j hj => ?_⟩
  rw [World.frozen?_setCell]; exact f j hj
theorem Fv.set4 (H : Fv W b h l c u m) : Fv (W.setCell ⟨b, 4, none⟩ (.int .i64 x)) b h l c u x := by
  obtain ⟨⟨h0, h1, h2, h3, h4⟩, f⟩ := H
  refine ⟨⟨psetO h0 (.inr (by decide)), psetO h1 (.inr (by decide)), psetO h2 (.inr (by decide)), psetO h3 (.inr (by decide)), psetS h4⟩, fun j hj => ?_⟩
  rw [World.frozen?_setCell]; exact f j hj
end
/-- A policy written over, cell by cell. -/
theorem Fv.five {W : World} {b : Nat} {h l c u m h' l' c' u' m' : Int} (H : Fv W b h l c u m) : Fv (((((W.setCell ⟨b, 0, none⟩ (.int .i64 h')).setCell ⟨b, 1, none⟩ (.int .i64 l')).setCell ⟨b, 2, none⟩ (.int .i64 c')).setCell ⟨b, 3, none⟩ (.int .i64 u')).setCell ⟨b, 4, none⟩ (.int .i64 m')) b h' l' c' u' m' := H.set0.set1.set2.set3.set4
theorem below_five {w W : World} {B b : Nat} {v0 v1 v2 v3 v4 : Value} (H : Below B w W) (hb : B ≤ b) : Below B w (((((W.setCell ⟨b, 0, none⟩ v0).setCell ⟨b, 1, none⟩ v1).setCell ⟨b, 2, none⟩ v2).setCell ⟨b, 3, none⟩ v3).setCell ⟨b, 4, none⟩ v4) :=
  ((((H.setCell hb v0).setCell hb v1).setCell hb v2).setCell hb v3).setCell hb v4
/-- A stat, held. -/
def hm (n : Int) : Int := max (-1000000) (min n 1000000)
/-- What is added. -/
def chg (c u m w : Int) : Int := if w = 1 then c else if w = 2 then -u else if w = 3 then -m else 0
/-- The stat after one thing. -/
def nx (c u m s w : Int) : Int := hm (hm s + chg c u m w)
/-- The stat after all. -/
def af (c u m s : Int) (l : List Int) : Int := l.foldl (fun x w => hm (x + chg c u m w)) (hm s)
/-- What is to be done. -/
def dc (h l s : Int) : Int := if h < hm s then 1 else if hm s < l then 2 else 0
theorem hm_lo (n : Int) : -1000000 ≤ hm n := by unfold hm; omega
theorem hm_hi (n : Int) : hm n ≤ 1000000 := by unfold hm; omega
/-- What Clamp made. -/
structure PBd (h l c u m : Int) : Prop where
  h0 : 1 ≤ h
  h1 : h ≤ 100000
  l0 : -100000 ≤ l
  l1 : l ≤ 0
  c0 : -100000 ≤ c
  c1 : c ≤ 100000
  u0 : -100000 ≤ u
  u1 : u ≤ 100000
  m0 : -100000 ≤ m
  m1 : m ≤ 100000
theorem Cl.bd {h l c u m h' l' c' u' m' : Int} (e : Cl h l c u m h' l' c' u' m') : PBd h' l' c' u' m' := by
  obtain ⟨rfl, rfl, rfl, rfl, rfl⟩ := e
  constructor <;> unfold wi <;> omega
end Go.Proofs.Ytijepfabkalcoaa
namespace Go.Proofs.Ytijepfabkalcoaa
open Go.RowKit Go.ChangeShapes Go.WideShapes Go.ChangeAt
set_option linter.all false
theorem af_step (c u m s : Int) (l : List Int) (k : Nat) (x : Int) (hx : l[k]? = some x) : af c u m s (l.take (k + 1)) = hm (af c u m s (l.take k) + chg c u m x) := by
  unfold af
  rw [List.take_add_one, hx, List.foldl_append]
  rfl
theorem af_bd (c u m s : Int) (l : List Int) : -1000000 ≤ af c u m s l ∧ af c u m s l ≤ 1000000 := by
  rcases List.eq_nil_or_concat l with rfl | ⟨l', x, rfl⟩
  · exact ⟨hm_lo s, hm_hi s⟩
  · unfold af
    simp only [List.concat_eq_append, List.foldl_append, List.foldl_cons, List.foldl_nil]
    exact ⟨hm_lo _, hm_hi _⟩
theorem chg_bd {h l c u m : Int} (B : PBd h l c u m) (k : Int) : -100000 ≤ chg c u m k ∧ chg c u m k ≤ 100000 := by
  obtain ⟨h0, h1, l0, l1, c0, c1, u0, u1, m0, m1⟩ := B
  unfold chg
  split
  · omega
  split
  · omega
  split <;> omega
theorem RI.one2 (w : World) (o : Obj) (x : Int) : RI ((w.alloc o).alloc (.cells #[.int .i64 x] 3)) (some ⟨w.heap.size + 1, 0, Option.none⟩) 1 [x] := by
  have := RI.one (w.alloc o) x
  rwa [World.size_alloc] at this
set_option maxRecDepth 100000 in
set_option maxHeartbeats 3200000 in
theorem decide_to (h l c u m h' l' c' u' m' n : Int) (e : Cl h l c u m h' l' c' u' m') (w : World) :
    Calls Try.prog 111 #[.agg #[.int .i64 h, .int .i64 l, .int .i64 c, .int .i64 u, .int .i64 m], .int .i64 n] w fun e w' => e = .returned (.int .i64 (dc h' l' n)) ∧ Below w.heap.size w w' := by
  have B := e.bd
  have B0 := B.h0
  have B1 := B.h1
  have B2 := B.l0
  have B3 := B.l1
  clear B
  have HC := Lib.hid e
  clear e
  by_cases k1 : h' < n
  · have e : dc h' l' n = 1 := by unfold dc hm; rw [if_pos (by omega)]
    rw [e]
    clear e
    go_enter Try.func111, Try.ntmps111
    go_wp2_with (first
      | (go_at_call 120; ((with_reducible refine (clamp_to _ _ _ _ _ _ _ _ _ _ HC.out _).mono ?_); rintro e W1 ⟨rfl, hb1⟩; have HF0 := (Fv.keep (Fv.new w 26 (h := h) (l := l) (c := c) (u := u) (m := m)) hb1); have hB1 := Lib.hid (bst ((Below.refl _ _).alloc (Nat.le_refl _) _) hb1); obtain ⟨⟨g0, g1, g2, g3, g4⟩, gf⟩ := HF0; have gf0 := gf 0 (by decide); have gf1 := gf 1 (by decide); have gf2 := gf 2 (by decide); have gf3 := gf 3 (by decide); have gf4 := gf 4 (by decide); clear gf hb1)))
    go_ret
    exact ⟨rfl, below_five hB1.out (Nat.le_refl _)⟩
  by_cases k2 : n < l'
  · have e : dc h' l' n = 2 := by unfold dc hm; rw [if_neg (by omega), if_pos (by omega)]
    rw [e]
    clear e
    go_enter Try.func111, Try.ntmps111
    go_wp2_with (first
      | (go_at_call 120; ((with_reducible refine (clamp_to _ _ _ _ _ _ _ _ _ _ HC.out _).mono ?_); rintro e W1 ⟨rfl, hb1⟩; have HF0 := (Fv.keep (Fv.new w 26 (h := h) (l := l) (c := c) (u := u) (m := m)) hb1); have hB1 := Lib.hid (bst ((Below.refl _ _).alloc (Nat.le_refl _) _) hb1); obtain ⟨⟨g0, g1, g2, g3, g4⟩, gf⟩ := HF0; have gf0 := gf 0 (by decide); have gf1 := gf 1 (by decide); have gf2 := gf 2 (by decide); have gf3 := gf 3 (by decide); have gf4 := gf 4 (by decide); clear gf hb1)))
    go_ret
    exact ⟨rfl, below_five hB1.out (Nat.le_refl _)⟩
  have e : dc h' l' n = 0 := by unfold dc hm; rw [if_neg (by omega), if_neg (by omega)]
  rw [e]
  clear e
  go_enter Try.func111, Try.ntmps111
  go_wp2_with (first
    | (go_at_call 120; ((with_reducible refine (clamp_to _ _ _ _ _ _ _ _ _ _ HC.out _).mono ?_); rintro e W1 ⟨rfl, hb1⟩; have HF0 := (Fv.keep (Fv.new w 26 (h := h) (l := l) (c := c) (u := u) (m := m)) hb1); have hB1 := Lib.hid (bst ((Below.refl _ _).alloc (Nat.le_refl _) _) hb1); obtain ⟨⟨g0, g1, g2, g3, g4⟩, gf⟩ := HF0; have gf0 := gf 0 (by decide); have gf1 := gf 1 (by decide); have gf2 := gf 2 (by decide); have gf3 := gf 3 (by decide); have gf4 := gf 4 (by decide); clear gf hb1)))
  go_ret
  exact ⟨rfl, below_five hB1.out (Nat.le_refl _)⟩
end Go.Proofs.Ytijepfabkalcoaa

namespace Go.Proofs.Ytijepfabkalcoaa
open Go.RowKit Go.ChangeShapes Go.WideShapes Go.ChangeAt
set_option linter.all false
theorem held_any (n : Int) (w : World) :
    Calls Try.prog 121 #[.int .i64 n] w fun e w' => e = .returned (.int .i64 (hm n)) ∧ w' = w := by
  go_enter Try.func121, Try.ntmps121
  go_wp2
  all_goals
    go_ret
    refine ⟨congrArg (fun x => Ending.returned (Value.int .i64 x)) ?_, rfl⟩
    unfold hm
    omega
set_option maxHeartbeats 3200000 in
theorem change_any (h l c u m k : Int) (B : PBd h l c u m) (w : World) :
    Calls Try.prog 122 #[.agg #[.int .i64 h, .int .i64 l, .int .i64 c, .int .i64 u, .int .i64 m], .int .i64 k] w fun e w' => e = .returned (.int .i64 (chg c u m k)) ∧ Below w.heap.size w w' := by
  obtain ⟨h0, h1, l0, l1, c0, c1, u0, u1, m0, m1⟩ := B
  by_cases k1 : k = 1
  · subst k1
    go_enter Try.func122, Try.ntmps122
    go_wp2_with (fail)
    go_ret
    exact ⟨rfl, (Below.refl _ _).alloc (Nat.le_refl _) _⟩
  by_cases k2 : k = 2
  · subst k2
    go_enter Try.func122, Try.ntmps122
    go_wp2_with (fail)
    go_ret
    exact ⟨rfl, (Below.refl _ _).alloc (Nat.le_refl _) _⟩
  by_cases k3 : k = 3
  · subst k3
    go_enter Try.func122, Try.ntmps122
    go_wp2_with (fail)
    go_ret
    exact ⟨rfl, (Below.refl _ _).alloc (Nat.le_refl _) _⟩
  have e : chg c u m k = 0 := by unfold chg; rw [if_neg k1, if_neg k2, if_neg k3]
  have HE := Lib.hid e
  clear e
  go_enter Try.func122, Try.ntmps122
  go_wp2_with (fail)
  go_ret
  rw [HE.out]
  exact ⟨rfl, (Below.refl _ _).alloc (Nat.le_refl _) _⟩
set_option maxRecDepth 100000 in
set_option maxHeartbeats 3200000 in
theorem after_to (h l c u m h' l' c' u' m' n : Int) (a : Option Addr) (cap : Nat) (zs : List Int) (e : Cl h l c u m h' l' c' u' m') (w : World) (R : RI w a cap zs) :
    Calls Try.prog 109 #[.agg #[.int .i64 h, .int .i64 l, .int .i64 c, .int .i64 u, .int .i64 m], .int .i64 n, .slice a zs.length cap] w fun e w' => e = .returned (.int .i64 (af c' u' m' n zs)) ∧ Below w.heap.size w w' := by
  have HC := Lib.hid e
  have HR := Lib.hid R
  have hc1 := R.1
  have hc2 := R.2.1
  unfold maxLen at hc2
  clear e R
  go_enter Try.func109, Try.ntmps109
  go_wp2_with (first
    | (go_at_call 120; ((with_reducible refine (clamp_to _ _ _ _ _ _ _ _ _ _ HC.out _).mono ?_); rintro e W1 ⟨rfl, hb1⟩; have HF0 := (Fv.keep (Fv.new w 26 (h := h) (l := l) (c := c) (u := u) (m := m)) hb1); have hB1 := Lib.hid (bst ((Below.refl _ _).alloc (Nat.le_refl _) _) hb1); have HF1 := Lib.hid HF0; obtain ⟨⟨g0, g1, g2, g3, g4⟩, gf⟩ := HF0; have gf0 := gf 0 (by decide); have gf1 := gf 1 (by decide); have gf2 := gf 2 (by decide); have gf3 := gf 3 (by decide); have gf4 := gf 4 (by decide); clear gf hb1))
    | (go_at_call 121; ((with_reducible refine (held_any _ _).mono ?_); rintro e W2 ⟨rfl, hW2⟩; clear g0 g1 g2 g3 g4 gf0 gf1 gf2 gf3 gf4; have HF2 : Hid (Fv W2 w.heap.size h' l' c' u' m') := Lib.hid (by rw [hW2]; exact HF1.out.five); have HB2 : Hid (Below w.heap.size w W2) := Lib.hid (by rw [hW2]; exact below_five hB1.out (Nat.le_refl _)); clear hW2 HF1 hB1)))
  go_loopw [1, 15] (fun s i wr => ∃ (k : Nat) (x : Int), k ≤ zs.length ∧ i = .int .i64 k ∧ s = .int .i64 x ∧ af c' u' m' n (zs.take k) = x ∧ Pl wr w.heap.size h' l' c' u' m' ∧ Below w.heap.size w wr) (fun _ i _ => zs.length - (intOf i).toNat)
  case atStart => exact ⟨0, hm n, Nat.zero_le _, rfl, rfl, rfl, HF2.out.p, HB2.out⟩
  case round =>
    obtain ⟨k, x, hk, rfl, rfl, hx, hp, hb⟩ := hrel
    have hxb := af_bd c' u' m' n (zs.take k)
    rw [hx] at hxb
    obtain ⟨hx0, hx1⟩ := hxb
    have HX := Lib.hid hx
    have HB := Lib.hid hb
    have HP := Lib.hid hp
    clear hx hb
    by_cases hlt : k < zs.length
    · obtain ⟨v, hv⟩ : ∃ v, zs[k]? = some v := ⟨_, List.getElem?_eq_getElem hlt⟩
      obtain ⟨b, o, rfl, c0⟩ := (HR.out.below HB.out).2.2 k v hv
      have HV := Lib.hid hv
      clear hv
      obtain ⟨p0, p1, p2, p3, p4⟩ := hp
      have hcb := chg_bd HC.out.bd v
      obtain ⟨hd0, hd1⟩ := hcb
      have hchg := change_any h' l' c' u' m' v HC.out.bd
      obtain ⟨d, hd⟩ : ∃ d, chg c' u' m' v = d := ⟨_, rfl⟩
      rw [hd] at hchg hd0 hd1
      have HD := Lib.hid hd
      clear hd
      go_wp2_with (first
        | (go_at_call 122; ((with_reducible refine (hchg _).mono ?_); clear hchg; rintro e w3 ⟨rfl, hb3⟩))
        | (go_at_call 121; ((with_reducible refine (held_any _ _).mono ?_); rintro e w4 ⟨rfl, rfl⟩)))
      go_roundw
      case rel =>
        refine ⟨k + 1, _, hlt, by go_num, rfl, ?_, HP.out.keep hb3, bst HB.out hb3⟩
        rw [af_step _ _ _ _ _ _ _ HV.out, HX.out, HD.out]
      case measure => simp [intOf]; omega
    · obtain rfl : k = zs.length := by omega
      clear hp
      go_wp2_with (fail)
      go_ret
      have e2 : af c' u' m' n zs = x := by have := HX.out; rwa [List.take_length] at this
      rw [e2]
      exact ⟨rfl, HB.out⟩
theorem after_one (h l c u m h' l' c' u' m' n k : Int) (b : Nat) (e : Cl h l c u m h' l' c' u' m') (w : World) (R : RI w (some ⟨b, 0, Option.none⟩) 1 [k]) :
    Calls Try.prog 109 #[.agg #[.int .i64 h, .int .i64 l, .int .i64 c, .int .i64 u, .int .i64 m], .int .i64 n, .slice (some ⟨b, 0, Option.none⟩) 1 1] w fun e w' => e = .returned (.int .i64 (nx c' u' m' n k)) ∧ Below w.heap.size w w' :=
  after_to h l c u m h' l' c' u' m' n _ 1 [k] e w R
set_option maxRecDepth 100000 in
set_option maxHeartbeats 3200000 in
theorem next_to (h l c u m h' l' c' u' m' n k : Int) (e : Cl h l c u m h' l' c' u' m') (w : World) :
    Calls Try.prog 98 #[.agg #[.int .i64 h, .int .i64 l, .int .i64 c, .int .i64 u, .int .i64 m], .int .i64 n, .int .i64 k] w fun e w' => e = .returned (.int .i64 (nx c' u' m' n k)) ∧ Below w.heap.size w w' := by
  have HC := Lib.hid e
  clear e
  go_enter Try.func98, Try.ntmps98
  go_wp2_with (first
    | (go_at_call 109; ((with_reducible refine (after_one _ _ _ _ _ h' l' c' u' m' _ k _ HC.out _ (RI.one2 _ _ _)).mono ?_); rintro e w3 ⟨rfl, hb3⟩)))
  go_ret
  exact ⟨rfl, bst (((Below.refl _ _).alloc (Nat.le_refl _) _).alloc (by simp) _) hb3⟩
end Go.Proofs.Ytijepfabkalcoaa
