/- Plain mathematics of sound.May: what its walk tells of any items. Contracts of sound's rises, hung, from, May over any arena. -/
import Derived.Test.YtbmlpdkbiipcmaaLkG
import Derived.Test.YtbmlpdkbiipcmaaPtG
import Derived.Deep.RegionLaw
import Derived.Deep.QuietTactic
import Derived.BigQuiet
import Derived.Deep.RegionHeld3
namespace Go.Proofs.Ytbmlpdkbiipcmaa
open Go.RowKit
set_option linter.all false

/-- A node as it is told. -/
structure Nd where
  k : Int
  v : Int
  x : Int
  y : Int
  s : Int
  h : Int
def Nd.z : Nd := ⟨0, 0, 0, 0, 0, 0⟩
/-- What a check has counted and come by. -/
structure Cst where
  m : Nat
  b : Bool
  l : Int

/-- What hung tells, by what from tells. -/
def hngF (f : Int → Cst → Nd × Bool × Cst) (t k c : Int) (σ : Cst) : Nd × Bool × Cst :=
  if c = 0 then (Nd.z, true, σ) else if t ≤ c then (Nd.z, false, σ) else ((f c σ).1, (f c σ).2.1 && abv k (f c σ).1.k, (f c σ).2.2)
/-- What from tells of a node, by what hung tells of its left side and of its right side. -/
def stpF (L : List It) (t : Int) (l r : Nd × Bool × Cst) : Nd × Bool × Cst :=
  if l.2.1 = true ∧ ¬ (l.2.2.b = true ∧ valL L t 0 ≤ l.2.2.l) then
    if r.2.1 = true then (⟨valL L t 0, valL L t 1, valL L t 2, valL L t 3, valL L t 4, valL L t 5⟩, (valL L t 4 == wrap64 (wrap64 (l.1.s + r.1.s) + 1)) && (valL L t 5 == wrap64 (max l.1.h r.1.h + 1)), r.2.2)
    else (Nd.z, false, r.2.2)
  else (Nd.z, false, l.2.2)
/-- What from tells. -/
def frm (L : List It) : Nat → Int → Cst → Nd × Bool × Cst
  | 0, _, σ => (Nd.z, false, σ)
  | N + 1, t, σ =>
    if kindL L t = 1 ∧ σ.m ≠ 0 then
      stpF L t (hngF (frm L N) t (valL L t 0) (valL L t 2) ⟨σ.m - 1, σ.b, σ.l⟩)
        (hngF (frm L N) t (valL L t 0) (valL L t 3) ⟨(hngF (frm L N) t (valL L t 0) (valL L t 2) ⟨σ.m - 1, σ.b, σ.l⟩).2.2.m, true, valL L t 0⟩)
    else (Nd.z, false, σ)
/-- What May tells. -/
def mayL (L : List It) (t : Int) : Bool := if t = 0 then true else (frm L t.toNat t ⟨1200, false, 0⟩).2.1

/-- The check's own block. -/
structure Cs (W : World) (wb : Nat) (ao : Option Addr) (m : Nat) (b : Bool) (l : Int) : Prop where
  c0 : W.cell? ⟨wb, 0, none⟩ = some (.pointer ao)
  c1 : W.cell? ⟨wb, 1, none⟩ = some (.int .i64 (m : Int))
  c2 : W.cell? ⟨wb, 2, none⟩ = some (.bool b)
  c3 : W.cell? ⟨wb, 3, none⟩ = some (.int .i64 l)
  f1 : W.frozen? ⟨wb, 1, none⟩ = false
  f2 : W.frozen? ⟨wb, 2, none⟩ = false
  f3 : W.frozen? ⟨wb, 3, none⟩ = false

theorem Only.keepF {S : Nat → Prop} {W W' : World} {p : Addr} (h : Only S W W') (hl : p.block < W.heap.size) (hf : W.frozen? p = false) (hp : ¬ S p.block) : W'.frozen? p = false :=
  (World.frozen?_of_block (a := p) (h.block p.block hl hp)).trans hf

section
variable {w1 W W' : World} {wb nb : Nat} {ao : Option Addr} {m : Nat} {b : Bool} {l : Int} {S : Nat → Prop}
theorem Cs.lt (h : Cs W wb ao m b l) : wb < W.heap.size := World.block_lt_of_cell? W _ h.c0
theorem Cs.only (h : Cs W wb ao m b l) (o : Only S W W') (hS : ¬ S wb) : Cs W' wb ao m b l :=
  ⟨o.cell h.c0 hS, o.cell h.c1 hS, o.cell h.c2 hS, o.cell h.c3 hS, o.keepF h.lt h.f1 hS, o.keepF h.lt h.f2 hS, o.keepF h.lt h.f3 hS⟩
theorem Cs.keep (h : Cs W wb ao m b l) (hb : Below W.heap.size W W') : Cs W' wb ao m b l := h.only (S := fun _ => False) (Only.ofBelow hb) (fun h => h)
theorem Cs.less (h : Cs W wb ao m b l) (n : Nat) : Cs (W.setCell ⟨wb, 1, none⟩ (.int .i64 (n : Int))) wb ao n b l :=
  ⟨keepc h.c0 (by decide), World.cell?_setCell_same _ _ _ h.c1, keepc h.c2 (by decide), keepc h.c3 (by decide), by simpa using h.f1, by simpa using h.f2, by simpa using h.f3⟩
theorem Cs.by' (h : Cs W wb ao m b l) (k : Int) : Cs ((W.setCell ⟨wb, 2, none⟩ (.bool true)).setCell ⟨wb, 3, none⟩ (.int .i64 k)) wb ao m true k :=
  ⟨keepc (keepc h.c0 (by decide)) (by decide), keepc (keepc h.c1 (by decide)) (by decide), keepc (World.cell?_setCell_same _ _ _ h.c2) (by decide), World.cell?_setCell_same _ _ _ (keepc h.c3 (by decide)), by simpa using h.f1, by simpa using h.f2, by simpa using h.f3⟩
theorem Cs.cells (h : Cs W wb ao m b l) : W.cell? ⟨wb, 0, none⟩ = some (.pointer ao) ∧ W.cell? ⟨wb, 1, none⟩ = some (.int .i64 (m : Int)) ∧ W.frozen? ⟨wb, 1, none⟩ = false := ⟨h.c0, h.c1, h.f1⟩

/-- What from and hung tell: a node, yes or no, the check as it is then; nothing older has turned but the check. -/
def FrmSays (W : World) (wb : Nat) (ao : Option Addr) (r : Nd × Bool × Cst) (e : Ending) (w' : World) : Prop :=
  e = .returned (.tuple #[.agg #[.int .i64 r.1.k, .int .i64 r.1.v, .int .i64 r.1.x, .int .i64 r.1.y, .int .i64 r.1.s, .int .i64 r.1.h], .bool r.2.1]) ∧ Cs w' wb ao r.2.2.m r.2.2.b r.2.2.l ∧ Only (fun j => j = wb) W w'

theorem rises_no (key : Int) (h : Cs W wb ao m true l) (hk : key ≤ l) :
    Calls Try.prog 50 #[.pointer (some ⟨wb, 0, none⟩), .int .i64 key] W fun e w' => e = .returned (.bool false) ∧ Cs w' wb ao m true l ∧ Only (fun j => j = wb) W w' := by
  have HH := Lib.hid h
  have c2 := h.c2
  have c3 := h.c3
  have hd : decide (key ≤ l) = true := decide_eq_true hk
  clear h hk
  go_enter Try.func50, Try.ntmps50
  go_wp2_with (fail)
  go_ret
  exact ⟨rfl, HH.out.keep (by first | exact Below.refl _ _ | exact below_drewN (Below.refl _ _) _), by first | exact Only.refl _ _ | exact Only.ofBelow (below_drewN (Below.refl _ _) _)⟩

theorem rises_yes (key : Int) (h : Cs W wb ao m b l) (hk : ¬ (b = true ∧ key ≤ l)) :
    Calls Try.prog 50 #[.pointer (some ⟨wb, 0, none⟩), .int .i64 key] W fun e w' => e = .returned (.bool true) ∧ Cs w' wb ao m true key ∧ Only (fun j => j = wb) W w' := by
  have HH := Lib.hid h
  have c2 := h.c2
  have c3 := h.c3
  have f2 := h.f2
  have f3 := h.f3
  have oo : Only (fun j => j = wb) W ((W.setCell ⟨wb, 2, none⟩ (.bool true)).setCell ⟨wb, 3, none⟩ (.int .i64 key)) := ((Only.refl _ _).setAt _).setAt _
  have OO := Lib.hid oo
  clear h oo
  cases b
  · clear hk
    go_enter Try.func50, Try.ntmps50
    go_wp2_with (fail)
    go_ret
    exact ⟨rfl, HH.out.by' key, OO.out⟩
  · have hd : decide (key ≤ l) = false := decide_eq_false (fun hh => hk ⟨rfl, hh⟩)
    clear hk
    go_enter Try.func50, Try.ntmps50
    go_wp2_with (fail)
    go_ret
    exact ⟨rfl, HH.out.by' key, OO.out⟩

/-- from, of numbers up to N. -/
def FrmOk (w1 : World) (wb : Nat) (ao : Option Addr) (N : Nat) (f : Int → Cst → Nd × Bool × Cst) : Prop := ∀ (t : Int) (σ : Cst) (W : World), t ≤ N → σ.m ≤ 60000 → Cs W wb ao σ.m σ.b σ.l → Below w1.heap.size w1 W →
  Calls Try.prog 31 #[.pointer (some ⟨wb, 0, none⟩), .int .i64 t] W (FrmSays W wb ao (f t σ))


theorem SixZ.only {S : Nat → Prop} {b : Nat} (h : SixZ W b) (o : Only S W W') (hS : ¬ S b) : SixZ W' b :=
  ⟨o.cell h.z0 hS, o.cell h.z1 hS, o.cell h.z2 hS, o.cell h.z3 hS, o.cell h.z4 hS, o.cell h.z5 hS, o.keepF h.lt h.f0 hS, o.keepF h.lt h.f1 hS, o.keepF h.lt h.f2 hS, o.keepF h.lt h.f3 hS, o.keepF h.lt h.f4 hS, o.keepF h.lt h.f5 hS⟩
theorem six_far {rb : Nat} {m0 m1 m2 m3 m4 m5 : Int} (h : NodeAt W nb m0 m1 m2 m3 m4 m5) (hne : nb ≠ rb) (u0 u1 u2 u3 u4 u5 : Value) :
    NodeAt ((((((W.setCell ⟨rb, 0, none⟩ u0).setCell ⟨rb, 1, none⟩ u1).setCell ⟨rb, 2, none⟩ u2).setCell ⟨rb, 3, none⟩ u3).setCell ⟨rb, 4, none⟩ u4).setCell ⟨rb, 5, none⟩ u5) nb m0 m1 m2 m3 m4 m5 :=
  h.only (((((((Only.refl _ _).setAt _).setAt _).setAt _).setAt _).setAt _).setAt _) hne
theorem NodeAt.all6 {m0 m1 m2 m3 m4 m5 : Int} (h : NodeAt W nb m0 m1 m2 m3 m4 m5) : W.cell? ⟨nb, 0, none⟩ = some (.int .i64 m0) ∧ W.cell? ⟨nb, 1, none⟩ = some (.int .i64 m1) ∧ W.cell? ⟨nb, 2, none⟩ = some (.int .i64 m2) ∧ W.cell? ⟨nb, 3, none⟩ = some (.int .i64 m3) ∧ W.cell? ⟨nb, 4, none⟩ = some (.int .i64 m4) ∧ W.cell? ⟨nb, 5, none⟩ = some (.int .i64 m5) := ⟨h.c0, h.c1, h.c2, h.c3, h.c4, h.c5⟩
theorem Only.below' {B : Nat} (h : Below B W W') : Only (fun j => B ≤ j) W W' := ⟨h.os, h.tape, h.output, h.size, fun i _ hn => h.block i (Nat.lt_of_not_le hn)⟩
theorem csnd_zero (hC : Cs W wb ao m b l) (o : Obj) : Cs (W.alloc o) wb ao m b l ∧ Only (fun j => j = wb) W (W.alloc o) :=
  ⟨hC.keep ((Below.refl _ _).alloc (Nat.le_refl _) _), Only.ofBelow ((Below.refl _ _).alloc (Nat.le_refl _) _)⟩

set_option maxRecDepth 100000 in
set_option maxHeartbeats 6400000 in
theorem chung_any {N : Nat} {f : Int → Cst → Nd × Bool × Cst} (hf : FrmOk w1 wb ao N f) (t k c : Int) (σ : Cst) (ht : t ≤ (N : Int) + 1) (hm : σ.m ≤ 60000) (hC : Cs W wb ao σ.m σ.b σ.l) (hb : Below w1.heap.size w1 W) :
    Calls Try.prog 49 #[.pointer (some ⟨wb, 0, none⟩), .int .i64 t, .int .i64 k, .int .i64 c] W (FrmSays W wb ao (hngF f t k c σ)) := by
  unfold hngF
  have HH := Lib.hid hC
  by_cases h0 : c = 0
  · rw [if_pos h0]
    subst h0
    clear hf hC ht hb hm
    go_enter Try.func49, Try.ntmps49
    go_wp2_with (fail)
    refine bodyPost_ret (v := .tuple #[.agg #[.int .i64 0, .int .i64 0, .int .i64 0, .int .i64 0, .int .i64 0, .int .i64 0], .bool true]) (by simp [results, Try.results49, go_sem]) rfl ⟨rfl, csnd_zero HH.out _⟩
  · rw [if_neg h0]
    have h0' : (c == 0) = false := by simp [h0]
    by_cases h1 : t ≤ c
    · rw [if_pos h1]
      have h1' : decide (t ≤ c) = true := decide_eq_true h1
      clear hf hC ht hb hm h0 h1
      go_enter Try.func49, Try.ntmps49
      go_wp2_with (fail)
      refine bodyPost_ret (v := .tuple #[.agg #[.int .i64 0, .int .i64 0, .int .i64 0, .int .i64 0, .int .i64 0, .int .i64 0], .bool false]) (by simp [results, Try.results49, go_sem]) rfl ⟨rfl, csnd_zero HH.out _⟩
    · rw [if_neg h1]
      have h1' : decide (t ≤ c) = false := decide_eq_false h1
      have cf := fun V => hf c σ V (by omega) hm
      have HB := Lib.hid hb
      have o0 : Below W.heap.size W (W.alloc (.cells #[.int .i64 0, .int .i64 0, .int .i64 0, .int .i64 0, .int .i64 0, .int .i64 0] 41)) := (Below.refl _ _).alloc (Nat.le_refl _) _
      have hlt := hC.lt
      generalize f c σ = r at cf ⊢
      obtain ⟨⟨n0, n1, n2, n3, n4, n5⟩, ok, σ'⟩ := r
      have ca := mixAbove_any k n0
      generalize abv k n0 = av at ca ⊢
      clear hf hC ht hb hm h0 h1
      have Z := Lib.hid (SixZ.new W 41)
      go_enter Try.func49, Try.ntmps49
      go_upto_region 6 with (first
        | (go_at_call 31; ((with_reducible refine (cf _ (HH.out.keep o0) (HB.out.trans (o0.mono HB.out.size))).mono ?_); clear cf; rintro e w2 ⟨rfl, hc2, ho2⟩)))
      have hs2 := ho2.size
      simp only [World.size_alloc] at hs2
      have Z2 : SixZ w2 W.heap.size := Z.out.only ho2 (Nat.ne_of_gt hlt)
      have Z3 := Z2.keep ((Below.refl _ _).alloc (Nat.le_refl _) (.cells #[.int .i64 n0, .int .i64 n1, .int .i64 n2, .int .i64 n3, .int .i64 n4, .int .i64 n5] 41))
      have N3 := Six.new w2 n0 n1 n2 n3 n4 n5 41
      have C3 := Lib.hid (hc2.keep ((Below.refl _ _).alloc (Nat.le_refl _) (.cells #[.int .i64 n0, .int .i64 n1, .int .i64 n2, .int .i64 n3, .int .i64 n4, .int .i64 n5] 41)))
      have O3 := Lib.hid (((Only.ofBelow (S := fun j => j = wb) o0).trans ho2 (fun i hi _ => hi)).trans (T := fun _ => False) (Only.ofBelow ((Below.refl _ _).alloc (Nat.le_refl _) (.cells #[.int .i64 n0, .int .i64 n1, .int .i64 n2, .int .i64 n3, .int .i64 n4, .int .i64 n5] 41))) (fun _ hf => hf.elim))
      have LB := Lib.hid (And.intro hlt hs2)
      clear hc2 ho2 Z2 hlt hs2 HH HB o0 Z
      generalize w2.heap.size = nb at *
      generalize hrb : W.heap.size = rb at *
      have HRB := Lib.hid hrb
      clear hrb
      generalize (World.alloc w2 _ : World) = V at *
      obtain ⟨z0, z1, z2, z3, z4, z5, f0, f1, f2, f3, f4, f5⟩ := Z3
      obtain ⟨⟨c0, c1, c2, c3, c4, c5⟩, -, -, -, -, -, -⟩ := N3
      cases ok
      · have Z4 : SixZ V rb := ⟨z0, z1, z2, z3, z4, z5, f0, f1, f2, f3, f4, f5⟩
        have N4 : NodeAt V nb n0 n1 n2 n3 n4 n5 := ⟨c0, c1, c2, c3, c4, c5⟩
        have NF := Lib.hid ((six_far N4 (show nb ≠ rb from by have := LB.out; omega) (.int .i64 n0) (.int .i64 n1) (.int .i64 n2) (.int .i64 n3) (.int .i64 n4) (.int .i64 n5)).keep ((Below.refl _ _).drew))
        obtain ⟨Wf, hWf, r0, r1, r2, r3, r4, r5, rbl⟩ := Z4.put (.int .i64 n0) (.int .i64 n1) (.int .i64 n2) (.int .i64 n3) (.int .i64 n4) (.int .i64 n5)
        have HWf := Lib.hid hWf
        clear hWf N4
        refine wp_region_held_drew (S := (fun W => W.cell? ⟨nb, 0, none⟩ = some (.int .i64 n0) ∧ W.cell? ⟨nb, 1, none⟩ = some (.int .i64 n1) ∧ W.cell? ⟨nb, 2, none⟩ = some (.int .i64 n2) ∧ W.cell? ⟨nb, 3, none⟩ = some (.int .i64 n3) ∧ W.cell? ⟨nb, 4, none⟩ = some (.int .i64 n4) ∧ W.cell? ⟨nb, 5, none⟩ = some (.int .i64 n5))) (by kernel_rfl) (⟨c0, c1, c2, c3, c4, c5⟩) (fun hHeld => ?_)
        refine wpAnyH_take (i := 0) (v := ?_) rfl (by kernel_rfl) (by kernel_rfl) (by kernel_rfl) (fun _ _ _ h => h) (Or.inl ⟨by rfl, ?_⟩) hHeld ?_
        rotate_left
        · (intro wS hSw; (try dsimp only at hSw); (try go_split_ands); go_simp; try with_reducible rfl)
        try simp only [List.getElem_toArray, List.getElem_cons_succ, List.getElem_cons_zero, Act.put, List.setIfInBounds_toArray, List.set_cons_zero, List.set_cons_succ]
        refine wpAnyH_take (i := 1) (v := ?_) rfl (by kernel_rfl) (by kernel_rfl) (by kernel_rfl) (fun _ _ _ h => h) (Or.inl ⟨by rfl, ?_⟩) hHeld ?_
        rotate_left
        · (intro wS hSw; (try dsimp only at hSw); (try go_split_ands); go_simp; try with_reducible rfl)
        try simp only [List.getElem_toArray, List.getElem_cons_succ, List.getElem_cons_zero, Act.put, List.setIfInBounds_toArray, List.set_cons_zero, List.set_cons_succ]
        refine wpAnyH_take (i := 2) (v := ?_) rfl (by kernel_rfl) (by kernel_rfl) (by kernel_rfl) (fun _ _ _ h => h) (Or.inl ⟨by rfl, ?_⟩) hHeld ?_
        rotate_left
        · (intro wS hSw; (try dsimp only at hSw); (try go_split_ands); go_simp; try with_reducible rfl)
        try simp only [List.getElem_toArray, List.getElem_cons_succ, List.getElem_cons_zero, Act.put, List.setIfInBounds_toArray, List.set_cons_zero, List.set_cons_succ]
        refine wpAnyH_take (i := 3) (v := undef) rfl (by kernel_rfl) (by kernel_rfl) (by kernel_rfl) (fun _ _ _ h => h) (Or.inr ⟨by rfl, rfl⟩) hHeld ?_
        try simp only [List.getElem_toArray, List.getElem_cons_succ, List.getElem_cons_zero, Act.put, List.setIfInBounds_toArray, List.set_cons_zero, List.set_cons_succ]
        refine wpAnyH_take (i := 4) (v := undef) rfl (by kernel_rfl) (by kernel_rfl) (by kernel_rfl) (fun _ _ _ h => h) (Or.inr ⟨by rfl, rfl⟩) hHeld ?_
        try simp only [List.getElem_toArray, List.getElem_cons_succ, List.getElem_cons_zero, Act.put, List.setIfInBounds_toArray, List.set_cons_zero, List.set_cons_succ]
        refine wpAnyH_take (i := 5) (v := undef) rfl (by kernel_rfl) (by kernel_rfl) (by kernel_rfl) (fun _ _ _ h => h) (Or.inr ⟨by rfl, rfl⟩) hHeld ?_
        try simp only [List.getElem_toArray, List.getElem_cons_succ, List.getElem_cons_zero, Act.put, List.setIfInBounds_toArray, List.set_cons_zero, List.set_cons_succ]
        refine wpAnyH_take (i := 6) (v := undef) rfl (by kernel_rfl) (by kernel_rfl) (by kernel_rfl) (fun _ _ _ h => h) (Or.inr ⟨by rfl, rfl⟩) hHeld ?_
        try simp only [List.getElem_toArray, List.getElem_cons_succ, List.getElem_cons_zero, Act.put, List.setIfInBounds_toArray, List.set_cons_zero, List.set_cons_succ]
        refine wpAnyH_take (i := 7) (v := undef) rfl (by kernel_rfl) (by kernel_rfl) (by kernel_rfl) (fun _ _ _ h => h) (Or.inr ⟨by rfl, rfl⟩) hHeld ?_
        try simp only [List.getElem_toArray, List.getElem_cons_succ, List.getElem_cons_zero, Act.put, List.setIfInBounds_toArray, List.set_cons_zero, List.set_cons_succ]
        refine wpAnyH_take (i := 8) (v := ?_) rfl (by kernel_rfl) (by kernel_rfl) (by kernel_rfl) (fun _ _ _ h => h) (Or.inl ⟨by rfl, ?_⟩) hHeld ?_
        rotate_left
        · (intro wS hSw; (try dsimp only at hSw); (try go_split_ands); go_simp; try with_reducible rfl)
        try simp only [List.getElem_toArray, List.getElem_cons_succ, List.getElem_cons_zero, Act.put, List.setIfInBounds_toArray, List.set_cons_zero, List.set_cons_succ]
        refine wpAnyH_ready (rs := [9]) (by kernel_rfl) (by simp) ?_
        refine AllReadyH.cons rfl (fun K hK => ?_) AllReadyH.nil
        go_simp
        skip
        refine hK.out _ _ ?_ (fun hNext => ?_)
        · first | exact NF.out.all6 | skip
        clear hK K hHeld
        have hHeld := hNext
        clear hNext
        try simp only [List.getElem_toArray, List.getElem_cons_succ, List.getElem_cons_zero, Act.put, List.setIfInBounds_toArray, List.set_cons_zero, List.set_cons_succ]
        refine wpAnyH_take (i := 10) (v := ?_) rfl (by kernel_rfl) (by kernel_rfl) (by kernel_rfl) (fun _ _ _ h => h) (Or.inl ⟨by rfl, ?_⟩) hHeld ?_
        rotate_left
        · (intro wS hSw; (try dsimp only at hSw); (try go_split_ands); go_simp; try with_reducible rfl)
        try simp only [List.getElem_toArray, List.getElem_cons_succ, List.getElem_cons_zero, Act.put, List.setIfInBounds_toArray, List.set_cons_zero, List.set_cons_succ]
        refine wpAnyH_done (by kernel_rfl) ?_ _
        rw [← HWf.out]
        clear z0 z1 z2 z3 z4 z5 f0 f1 f2 f3 f4 f5 c0 c1 c2 c3 c4 c5 HWf hHeld NF
        go_wp2_with (fail)
        refine bodyPost_ret (v := .tuple #[.agg #[.int .i64 n0, .int .i64 n1, .int .i64 n2, .int .i64 n3, .int .i64 n4, .int .i64 n5], .bool false]) (by simp [results, Try.results49, go_sem, r0, r1, r2, r3, r4, r5]) rfl ⟨by simp, ?_, ?_⟩
        · exact (C3.out.only (Only.below' rbl) (by have := LB.out; omega)).keep ((Below.refl _ _).drew)
        · exact (O3.out.trans (Only.below' rbl) (fun i hi hlt => by have := HRB.out; omega)).drew
      · have Z4 : SixZ V rb := ⟨z0, z1, z2, z3, z4, z5, f0, f1, f2, f3, f4, f5⟩
        have N4 : NodeAt V nb n0 n1 n2 n3 n4 n5 := ⟨c0, c1, c2, c3, c4, c5⟩
        have NF := Lib.hid ((six_far N4 (show nb ≠ rb from by have := LB.out; omega) (.int .i64 n0) (.int .i64 n1) (.int .i64 n2) (.int .i64 n3) (.int .i64 n4) (.int .i64 n5)).keep ((Below.refl _ _).drew))
        obtain ⟨Wf, hWf, r0, r1, r2, r3, r4, r5, rbl⟩ := Z4.put (.int .i64 n0) (.int .i64 n1) (.int .i64 n2) (.int .i64 n3) (.int .i64 n4) (.int .i64 n5)
        have HWf := Lib.hid hWf
        clear hWf N4
        refine wp_region_held_drew (S := (fun W => W.cell? ⟨nb, 0, none⟩ = some (.int .i64 n0) ∧ W.cell? ⟨nb, 1, none⟩ = some (.int .i64 n1) ∧ W.cell? ⟨nb, 2, none⟩ = some (.int .i64 n2) ∧ W.cell? ⟨nb, 3, none⟩ = some (.int .i64 n3) ∧ W.cell? ⟨nb, 4, none⟩ = some (.int .i64 n4) ∧ W.cell? ⟨nb, 5, none⟩ = some (.int .i64 n5))) (by kernel_rfl) (⟨c0, c1, c2, c3, c4, c5⟩) (fun hHeld => ?_)
        refine wpAnyH_take (i := 0) (v := ?_) rfl (by kernel_rfl) (by kernel_rfl) (by kernel_rfl) (fun _ _ _ h => h) (Or.inl ⟨by rfl, ?_⟩) hHeld ?_
        rotate_left
        · (intro wS hSw; (try dsimp only at hSw); (try go_split_ands); go_simp; try with_reducible rfl)
        try simp only [List.getElem_toArray, List.getElem_cons_succ, List.getElem_cons_zero, Act.put, List.setIfInBounds_toArray, List.set_cons_zero, List.set_cons_succ]
        refine wpAnyH_take (i := 1) (v := ?_) rfl (by kernel_rfl) (by kernel_rfl) (by kernel_rfl) (fun _ _ _ h => h) (Or.inl ⟨by rfl, ?_⟩) hHeld ?_
        rotate_left
        · (intro wS hSw; (try dsimp only at hSw); (try go_split_ands); go_simp; try with_reducible rfl)
        try simp only [List.getElem_toArray, List.getElem_cons_succ, List.getElem_cons_zero, Act.put, List.setIfInBounds_toArray, List.set_cons_zero, List.set_cons_succ]
        refine wpAnyH_take (i := 2) (v := ?_) rfl (by kernel_rfl) (by kernel_rfl) (by kernel_rfl) (fun _ _ _ h => h) (Or.inl ⟨by rfl, ?_⟩) hHeld ?_
        rotate_left
        · (intro wS hSw; (try dsimp only at hSw); (try go_split_ands); go_simp; try with_reducible rfl)
        try simp only [List.getElem_toArray, List.getElem_cons_succ, List.getElem_cons_zero, Act.put, List.setIfInBounds_toArray, List.set_cons_zero, List.set_cons_succ]
        refine wpAnyH_take (i := 3) (v := ?_) rfl (by kernel_rfl) (by kernel_rfl) (by kernel_rfl) (fun _ _ _ h => h) (Or.inl ⟨by rfl, ?_⟩) hHeld ?_
        rotate_left
        · (intro wS hSw; (try dsimp only at hSw); (try go_split_ands); go_simp; try with_reducible rfl)
        try simp only [List.getElem_toArray, List.getElem_cons_succ, List.getElem_cons_zero, Act.put, List.setIfInBounds_toArray, List.set_cons_zero, List.set_cons_succ]
        refine wpAnyH_take (i := 4) (v := ?_) rfl (by kernel_rfl) (by kernel_rfl) (by kernel_rfl) (fun _ _ _ h => h) (Or.inl ⟨by rfl, ?_⟩) hHeld ?_
        rotate_left
        · (intro wS hSw; (try dsimp only at hSw); (try go_split_ands); go_simp; try with_reducible rfl)
        try simp only [List.getElem_toArray, List.getElem_cons_succ, List.getElem_cons_zero, Act.put, List.setIfInBounds_toArray, List.set_cons_zero, List.set_cons_succ]
        refine wpAnyH_take (i := 5) (v := ?_) rfl (by kernel_rfl) (by kernel_rfl) (by kernel_rfl) (fun _ _ _ h => h) (Or.inl ⟨by rfl, ?_⟩) hHeld ?_
        rotate_left
        · (intro wS hSw; (try dsimp only at hSw); (try go_split_ands); go_simp; try with_reducible rfl)
        try simp only [List.getElem_toArray, List.getElem_cons_succ, List.getElem_cons_zero, Act.put, List.setIfInBounds_toArray, List.set_cons_zero, List.set_cons_succ]
        refine wpAnyH_take (i := 6) (v := ?_) rfl (by kernel_rfl) (by kernel_rfl) (by kernel_rfl) (fun _ _ _ h => h) (Or.inl ⟨by rfl, ?_⟩) hHeld ?_
        rotate_left
        · (intro wS hSw; (try dsimp only at hSw); (try go_split_ands); go_simp; try with_reducible rfl)
        try simp only [List.getElem_toArray, List.getElem_cons_succ, List.getElem_cons_zero, Act.put, List.setIfInBounds_toArray, List.set_cons_zero, List.set_cons_succ]
        refine wpAnyH_ready (rs := [7]) (by kernel_rfl) (by simp) ?_
        refine AllReadyH.cons rfl (fun K hK => ?_) AllReadyH.nil
        go_simp
        go_at_call 55; (with_reducible refine (ca _).mono ?_); rintro e w5 ⟨rfl, rfl⟩
        refine hK.out _ _ ?_ (fun hNext => ?_)
        · exact hHeld
        clear hK K hHeld
        have hHeld := hNext
        clear hNext
        try simp only [List.getElem_toArray, List.getElem_cons_succ, List.getElem_cons_zero, Act.put, List.setIfInBounds_toArray, List.set_cons_zero, List.set_cons_succ]
        refine wpAnyH_take (i := 8) (v := ?_) rfl (by kernel_rfl) (by kernel_rfl) (by kernel_rfl) (fun _ _ _ h => h) (Or.inl ⟨by rfl, ?_⟩) hHeld ?_
        rotate_left
        · (intro wS hSw; (try dsimp only at hSw); (try go_split_ands); go_simp; try with_reducible rfl)
        try simp only [List.getElem_toArray, List.getElem_cons_succ, List.getElem_cons_zero, Act.put, List.setIfInBounds_toArray, List.set_cons_zero, List.set_cons_succ]
        refine wpAnyH_ready (rs := [9]) (by kernel_rfl) (by simp) ?_
        refine AllReadyH.cons rfl (fun K hK => ?_) AllReadyH.nil
        go_simp
        skip
        refine hK.out _ _ ?_ (fun hNext => ?_)
        · first | exact NF.out.all6 | skip
        clear hK K hHeld
        have hHeld := hNext
        clear hNext
        try simp only [List.getElem_toArray, List.getElem_cons_succ, List.getElem_cons_zero, Act.put, List.setIfInBounds_toArray, List.set_cons_zero, List.set_cons_succ]
        refine wpAnyH_take (i := 10) (v := ?_) rfl (by kernel_rfl) (by kernel_rfl) (by kernel_rfl) (fun _ _ _ h => h) (Or.inl ⟨by rfl, ?_⟩) hHeld ?_
        rotate_left
        · (intro wS hSw; (try dsimp only at hSw); (try go_split_ands); go_simp; try with_reducible rfl)
        try simp only [List.getElem_toArray, List.getElem_cons_succ, List.getElem_cons_zero, Act.put, List.setIfInBounds_toArray, List.set_cons_zero, List.set_cons_succ]
        refine wpAnyH_done (by kernel_rfl) ?_ _
        rw [← HWf.out]
        clear z0 z1 z2 z3 z4 z5 f0 f1 f2 f3 f4 f5 c0 c1 c2 c3 c4 c5 HWf hHeld NF
        go_wp2_with (fail)
        refine bodyPost_ret (v := .tuple #[.agg #[.int .i64 n0, .int .i64 n1, .int .i64 n2, .int .i64 n3, .int .i64 n4, .int .i64 n5], .bool av]) (by simp [results, Try.results49, go_sem, r0, r1, r2, r3, r4, r5]) rfl ⟨by simp, ?_, ?_⟩
        · exact (C3.out.only (Only.below' rbl) (by have := LB.out; omega)).keep ((Below.refl _ _).drew)
        · exact (O3.out.trans (Only.below' rbl) (fun i hi hlt => by have := HRB.out; omega)).drew
end

/-- The frame of a from behind its node. -/
structure Fw (w1 W0 W : World) (rb nb wb : Nat) (ao : Option Addr) (k v x y s h : Int) (σ : Cst) : Prop where
  z : SixZ W rb
  n : NodeAt W nb k v x y s h
  c : Cs W wb ao σ.m σ.b σ.l
  o : Only (fun j => j = wb) W0 W
  b : Below w1.heap.size w1 W
  er : W0.heap.size = rb
  lw : wb < rb
  ln : rb < nb
  l1 : w1.heap.size ≤ wb

section
variable {w1 W0 W W' : World} {rb nb wb lb : Nat} {ao : Option Addr} {k v x y s h : Int} {σ : Cst} {e : Ending} {r : Nd × Bool × Cst}
theorem Fw.keep (H : Fw w1 W0 W rb nb wb ao k v x y s h σ) (hb : Below W.heap.size W W') : Fw w1 W0 W' rb nb wb ao k v x y s h σ :=
  ⟨H.z.keep hb, H.n.keep hb, H.c.keep hb, H.o.trans (T := fun _ => False) (Only.ofBelow hb) (fun _ hf => hf.elim), H.b.trans (hb.mono H.b.size), H.er, H.lw, H.ln, H.l1⟩
theorem Fw.only (H : Fw w1 W0 W rb nb wb ao k v x y s h σ) (o : Only (fun j => j = wb) W W') {τ : Cst} (hc : Cs W' wb ao τ.m τ.b τ.l) : Fw w1 W0 W' rb nb wb ao k v x y s h τ :=
  ⟨H.z.only o (Nat.ne_of_gt H.lw), H.n.only o (by have := H.lw; have := H.ln; omega), hc, H.o.trans o (fun _ hi _ => hi), H.b.trans (o.below (fun i hi => hi ▸ H.l1) H.b.size), H.er, H.lw, H.ln, H.l1⟩
theorem Fw.called (H : Fw w1 W0 W rb nb wb ao k v x y s h σ) (m : FrmSays W wb ao r e W') : Fw w1 W0 W' rb nb wb ao k v x y s h r.2.2 := H.only m.2.2 m.2.1
theorem Fw.less (H : Fw w1 W0 W rb nb wb ao k v x y s h σ) (n : Nat) : Fw w1 W0 (W.setCell ⟨wb, 1, none⟩ (.int .i64 (n : Int))) rb nb wb ao k v x y s h ⟨n, σ.b, σ.l⟩ :=
  H.only ((Only.refl _ _).setAt _) (H.c.less n)
theorem Fw.cells (H : Fw w1 W0 W rb nb wb ao k v x y s h σ) :
    (W.cell? ⟨nb, 0, none⟩ = some (.int .i64 k) ∧ W.cell? ⟨nb, 1, none⟩ = some (.int .i64 v) ∧ W.cell? ⟨nb, 2, none⟩ = some (.int .i64 x) ∧ W.cell? ⟨nb, 3, none⟩ = some (.int .i64 y) ∧ W.cell? ⟨nb, 4, none⟩ = some (.int .i64 s) ∧ W.cell? ⟨nb, 5, none⟩ = some (.int .i64 h)) ∧
    W.cell? ⟨wb, 0, none⟩ = some (.pointer ao) ∧ W.cell? ⟨wb, 1, none⟩ = some (.int .i64 (σ.m : Int)) ∧ W.frozen? ⟨wb, 1, none⟩ = false :=
  ⟨H.n.all6, H.c.c0, H.c.c1, H.c.f1⟩
/-- The end that tells no. -/
theorem Fw.no (H : Fw w1 W0 W rb nb wb ao k v x y s h σ) : ∃ Wf, Wf = ((((((W.setCell ⟨rb, 0, none⟩ (.int .i64 0)).setCell ⟨rb, 1, none⟩ (.int .i64 0)).setCell ⟨rb, 2, none⟩ (.int .i64 0)).setCell ⟨rb, 3, none⟩ (.int .i64 0)).setCell ⟨rb, 4, none⟩ (.int .i64 0)).setCell ⟨rb, 5, none⟩ (.int .i64 0)) ∧
    SixZ Wf rb ∧ Cs Wf wb ao σ.m σ.b σ.l ∧ Only (fun j => j = wb) W0 Wf := by
  obtain ⟨Wf, hWf, r0, r1, r2, r3, r4, r5, rbl⟩ := H.z.put (.int .i64 0) (.int .i64 0) (.int .i64 0) (.int .i64 0) (.int .i64 0) (.int .i64 0)
  have hf : ∀ j, W.frozen? ⟨rb, j, none⟩ = false → Wf.frozen? ⟨rb, j, none⟩ = false := fun j hj => by rw [hWf]; simpa using hj
  refine ⟨Wf, hWf, ⟨r0, r1, r2, r3, r4, r5, hf _ H.z.f0, hf _ H.z.f1, hf _ H.z.f2, hf _ H.z.f3, hf _ H.z.f4, hf _ H.z.f5⟩, H.c.only (Only.below' rbl) (by have := H.lw; omega), H.o.trans (Only.below' rbl) (fun i hi hlt => by have := H.er; omega)⟩
theorem Fw.begin {w2 : World} (hC : Cs W0 wb ao σ.m σ.b σ.l) (hb : Below w1.heap.size w1 W0) (hl : w1.heap.size ≤ wb)
    (h2 : Below (W0.alloc (.cells #[.int .i64 0, .int .i64 0, .int .i64 0, .int .i64 0, .int .i64 0, .int .i64 0] 41)).heap.size (W0.alloc (.cells #[.int .i64 0, .int .i64 0, .int .i64 0, .int .i64 0, .int .i64 0, .int .i64 0] 41)) w2) :
    Fw w1 W0 (w2.alloc (.cells #[.int .i64 k, .int .i64 v, .int .i64 x, .int .i64 y, .int .i64 s, .int .i64 h] 41)) W0.heap.size w2.heap.size wb ao k v x y s h σ := by
  have hs := h2.size
  simp only [World.size_alloc] at hs
  have o := (below_past (Below.refl _ W0) h2)
  have o3 := o.alloc o.size (.cells #[.int .i64 k, .int .i64 v, .int .i64 x, .int .i64 y, .int .i64 s, .int .i64 h] 41)
  exact ⟨((SixZ.new W0 _).keep h2).keep ((Below.refl _ _).alloc (Nat.le_refl _) _), (Six.new _ _ _ _ _ _ _ _).toNodeAt, hC.keep o3, Only.ofBelow o3, hb.trans (o3.mono hb.size), rfl, hC.lt, by omega, hl⟩
end

set_option maxRecDepth 100000 in
set_option maxHeartbeats 6400000 in
/-- from of what is no node, or of one too many. -/
theorem cfrom_no {L : List It} {w1 W : World} {wb : Nat} {ao : Option Addr} (hg : Gets ao L w1) (t : Int) (σ : Cst) (hC : Cs W wb ao σ.m σ.b σ.l) (hb : Below w1.heap.size w1 W) (hl : w1.heap.size ≤ wb) (hn : ¬ (kindL L t = 1 ∧ σ.m ≠ 0)) :
    Calls Try.prog 31 #[.pointer (some ⟨wb, 0, none⟩), .int .i64 t] W (FrmSays W wb ao (Nd.z, false, σ)) := by
  obtain ⟨B, m0, m1, m2, m3, m4, m5, hat, cg⟩ := hg.at (Below.refl _ _) t
  have o0 : Below W.heap.size W (W.alloc (.cells #[.int .i64 0, .int .i64 0, .int .i64 0, .int .i64 0, .int .i64 0, .int .i64 0] 41)) := (Below.refl _ _).alloc (Nat.le_refl _) _
  have b0 := hb.trans (o0.mono hb.size)
  have BG := Lib.hid (fun w2 h2 => Fw.begin (k := m0) (v := m1) (x := m2) (y := m3) (s := m4) (h := m5) (w2 := w2) hC hb hl h2)
  have c0 := cell_alloc hC.c0 (.cells #[.int .i64 0, .int .i64 0, .int .i64 0, .int .i64 0, .int .i64 0, .int .i64 0] 41)
  cases B
  · clear hat hn hC
    go_enter Try.func31, Try.ntmps31
    go_upto_region 2 with (first | (go_at_call 17; ((with_reducible refine (cg _ b0).mono ?_); clear cg; rintro e w2 ⟨rfl, hb2⟩)))
    have H2 := BG.out w2 hb2
    generalize w2.heap.size = nb at *
    generalize hrb : W.heap.size = rb at *
    generalize (World.alloc w2 _ : World) = W2 at *
    clear hrb BG c0
    obtain ⟨Wf, hWf, zf, cf, of⟩ := H2.no
    obtain ⟨z0, z1, z2, z3, z4, z5, f0, f1, f2, f3, f4, f5⟩ := H2.z
    have HWf := Lib.hid hWf
    clear hWf
    go_wp2_with (fail)
    rw [← HWf.out]
    obtain ⟨r0, r1, r2, r3, r4, r5, -, -, -, -, -, -⟩ := zf
    refine bodyPost_ret (v := .tuple #[.agg #[.int .i64 0, .int .i64 0, .int .i64 0, .int .i64 0, .int .i64 0, .int .i64 0], .bool false]) (by simp [results, Try.results31, go_sem, r0, r1, r2, r3, r4, r5]) rfl ⟨rfl, cf, of⟩
  · have hm : σ.m = 0 := Decidable.byContradiction (fun hh => hn ⟨(hat.yes).1, hh⟩)
    have HM := Lib.hid hm
    clear hat hn hC hm
    go_enter Try.func31, Try.ntmps31
    go_upto_region 2 with (first | (go_at_call 17; ((with_reducible refine (cg _ b0).mono ?_); clear cg; rintro e w2 ⟨rfl, hb2⟩)))
    have H2 := BG.out w2 hb2
    generalize w2.heap.size = nb at *
    generalize hrb : W.heap.size = rb at *
    generalize (World.alloc w2 _ : World) = W2 at *
    clear hrb BG c0
    obtain ⟨Wf, hWf, zf, cf, of⟩ := H2.no
    obtain ⟨z0, z1, z2, z3, z4, z5, f0, f1, f2, f3, f4, f5⟩ := H2.z
    have HWf := Lib.hid hWf
    have c1 : W2.cell? ⟨wb, 1, none⟩ = some (.int .i64 0) := by have := H2.c.c1; rw [HM.out] at this; exact this
    clear hWf
    go_wp2_with (fail)
    rw [← HWf.out]
    obtain ⟨r0, r1, r2, r3, r4, r5, -, -, -, -, -, -⟩ := zf
    refine bodyPost_ret (v := .tuple #[.agg #[.int .i64 0, .int .i64 0, .int .i64 0, .int .i64 0, .int .i64 0, .int .i64 0], .bool false]) (by simp [results, Try.results31, go_sem, r0, r1, r2, r3, r4, r5]) rfl ⟨rfl, cf, of⟩
end Go.Proofs.Ytbmlpdkbiipcmaa
