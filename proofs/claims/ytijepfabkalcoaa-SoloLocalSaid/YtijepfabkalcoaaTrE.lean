/- check.from, on: through a route. No condition: lemmas. -/
import Derived.Test.YtijepfabkalcoaaTrD
namespace Go.Proofs.Ytijepfabkalcoaa
open Go.RowKit
set_option linter.all false

/-- from does as it should, where fewer than f nodes have not been come to. -/
def FromOk (w0 : World) (a : Option Addr) (cap : Nat) (N : List Nd) (g sc : Nat) (f : Nat) : Prop :=
  ∀ (sn : List Bool) (t x y : Int) (hl hh : Bool) (W : World), cnt sn < f → sn.length = N.length → Bs W g sn → Below w0.heap.size w0 W → ∀ B : Bool, (B = true ↔ ∃ s, Part N sn t (oo hl x) (oo hh y) s) →
    Calls Try.prog 36 #[.agg #[.slice a N.length cap, .slice (some ⟨g, 0, none⟩) N.length sc], .int .i64 t, spv x y hl hh] W (FrIs g sn (Part N sn t (oo hl x) (oo hh y)) B W)

/-- What holds all along. -/
structure Fz (w w0 : World) (W : World) (sn : List Bool) (q0 q1 q2 : Nat) (a : Option Addr) (nl cap : Nat) (g sc : Nat) (x y : Int) (hl hh : Bool) (r : Bool) (k l b : Int) (pa : Option Addr) (pl pc : Nat) (s : Int) : Prop where
  c : C12 W q0 q1 q2 a nl cap g sc x y hl hh r k l b pa pl pc s
  b : Bs W g sn
  o : Only (fun j => j = g) w W
  z : Below w0.heap.size w0 W
section
variable {w w0 W W' : World} {sn : List Bool} {q0 q1 q2 : Nat} {a : Option Addr} {nl cap g sc : Nat} {x y : Int} {hl hh r : Bool} {k l b : Int} {pa : Option Addr} {pl pc : Nat} {s : Int}
theorem Fz.drew (h : Fz w w0 W sn q0 q1 q2 a nl cap g sc x y hl hh r k l b pa pl pc s) : Fz w w0 W.drew sn q0 q1 q2 a nl cap g sc x y hl hh r k l b pa pl pc s :=
  ⟨h.c, ⟨h.b.lt, h.b.at_, h.b.fr⟩, h.o.drew, h.z.drew⟩
theorem Fz.keep (h : Fz w w0 W sn q0 q1 q2 a nl cap g sc x y hl hh r k l b pa pl pc s) (hb : Below W.heap.size W W') : Fz w w0 W' sn q0 q1 q2 a nl cap g sc x y hl hh r k l b pa pl pc s :=
  ⟨h.c.keep hb, h.b.keep hb, h.o.trans (Only.ofBelow hb) (fun i hi _ => hi), h.z.trans (hb.mono h.z.size)⟩
theorem Fz.only {sn' : List Bool} (h : Fz w w0 W sn q0 q1 q2 a nl cap g sc x y hl hh r k l b pa pl pc s) (ho : Only (fun j => j = g) W W') (hB : Bs W' g sn') (hg : w0.heap.size ≤ g) (n0 : ¬ q0 = g) (n1 : ¬ q1 = g) (n2 : ¬ q2 = g) : Fz w w0 W' sn' q0 q1 q2 a nl cap g sc x y hl hh r k l b pa pl pc s :=
  ⟨h.c.only ho n0 n1 n2, hB, h.o.trans ho (fun i hi _ => hi), h.z.trans ((ho.below (B := w0.heap.size) (fun i hi => by rw [hi]; exact hg) h.z.size))⟩
end
attribute [local go_sem] undef
theorem cntn {sn : List Bool} {l : List Nat} {i f : Nat} (hs : sn[i]? = some false) (hf : cnt sn < f + 1) : cnt (sn.set i true) < f ∧ cnt (mark (sn.set i true) l) < f := by
  have h1 := cnt_set hs
  have h2 := cnt_mark l (sn.set i true)
  omega

section
variable {a : Option Addr} {cap : Nat} {N : List Nd} {w0 : World} {g sc : Nat}
set_option maxRecDepth 100000 in
set_option maxHeartbeats 6400000 in
theorem from_no1 (hN : Ns w0 a cap N) (hsm : Small N) (hg0 : w0.heap.size ≤ g) {i : Nat} {n : Nd} (hn : N[i]? = some n) (hr : n.r = true) {sn : List Bool} (hsl : sn.length = N.length) (hs : sn[i]? = some false) {x y : Int} {hl hh : Bool} {w : World} (hbw : Below w0.heap.size w0 w) (hB : Bs w g sn) {t : Int} (ht : t = (i : Int)) (hk : ¬ okR n (oo hl x) (oo hh y)) :
    Calls Try.prog 36 #[.agg #[.slice a N.length cap, .slice (some ⟨g, 0, none⟩) N.length sc], .int .i64 t, spv x y hl hh] w fun e w' => ∃ sn', e = .returned (.bool false) ∧ sn'.length = sn.length ∧ Bs w' g sn' ∧ Only (fun k => k = g) w w' := by
  subst ht
  have hil := (List.getElem?_eq_some_iff.1 hn).1
  have hl1 := hsm.1
  have hc1 := hN.1
  have hc2 := hN.2.1
  have hpl := hsm.at hn
  unfold maxLen at hc2
  obtain ⟨b, o, pa, pc, rfl, hna0⟩ := hN.2.2 i n hn
  have hna := hna0.keep hbw
  have hbl := World.block_lt_of_cell? w0 _ hna0.c0
  dsimp only at hbl
  have hgb : g ≠ b := by omega
  obtain ⟨r, k, l, b', p, s⟩ := n
  dsimp only at hr hpl
  subst hr
  have o2 : Below w.heap.size w ((w.alloc (.cells #[.slice (some ⟨b, o, none⟩) N.length cap, .slice (some ⟨g, 0, none⟩) N.length sc] 76)).alloc (.cells #[.int .i64 x, .int .i64 y, .bool hl, .bool hh] 79)) := bel1 (al1 _) _
  have c0 := kc o2 (hB.at_ i _ hs)
  have B2 := hB.keep o2
  have f0 := B2.fr i
  have B3 := B2.set i (by omega) true
  have bw3 : Below w0.heap.size w0 (((w.alloc (.cells #[.slice (some ⟨b, o, none⟩) N.length cap, .slice (some ⟨g, 0, none⟩) N.length sc] 76)).alloc (.cells #[.int .i64 x, .int .i64 y, .bool hl, .bool hh] 79)).setCell ⟨g, i, none⟩ (.bool true)) := (hbw.trans (o2.mono hbw.size)).setCell hg0 _
  have O3 : Only (fun j => j = g) w (((w.alloc (.cells #[.slice (some ⟨b, o, none⟩) N.length cap, .slice (some ⟨g, 0, none⟩) N.length sc] 76)).alloc (.cells #[.int .i64 x, .int .i64 y, .bool hl, .bool hh] 79)).setCell ⟨g, i, none⟩ (.bool true)) := (Only.ofBelow o2).setCell (S := fun j => j = g) (p := ⟨g, i, none⟩) (.inl rfl) _
  have cm := fun W => mayroute_any ⟨true, k, l, b', p, s⟩ pa pc x y hl hh W (by dsimp only; omega) false (by simp [hk])
  clear hk
  unfold ndv at cm
  unfold spv at *
  dsimp only at cm
  have E := Lib.hid (hna0.keep bw3)
  have C := Lib.hid (c6_make (a := some ⟨b, o, none⟩) (nl := N.length) (cap := cap) (sc := sc) (x := x) (y := y) (hl := hl) (hh := hh) (w := w) (i := i) hB.lt)
  have h0 : (0 : Int) ≤ (i : Int) := by omega
  have h1 : (i : Int) < (N.length : Int) := by omega
  have HX := Lib.hid (And.intro B3 (And.intro O3 bw3))
  have HG := Lib.hid hB.lt
  clear hs B2 hna0 hna hN hsm hn hB hbw B3 o2 O3 bw3
  go_enter Try.func36, Try.ntmps36
  go_upto_region 4 with (fail)
  generalize (World.setCell _ _ _ : World) = W3 at *
  obtain ⟨e0, e1, e2, e3, e4, e5, dp⟩ := E.out
  have F4 := Lib.hid ((show Fz w w0 (W3.alloc (.cells #[.bool true, .int .i64 k, .int .i64 l, .int .i64 b', .slice pa p.length pc, .int .i64 s] 49)) (sn.set i true) w.heap.size (w.heap.size + 1) W3.heap.size (some ⟨b, o, none⟩) N.length cap g sc x y hl hh true k l b' pa p.length pc s from
    ⟨C.out.node, HX.out.1.keep (al1 _), HX.out.2.1.alloc _, HX.out.2.2.alloc HX.out.2.2.size _⟩).drew)
  have hgW : g < w.heap.size := HG.out
  have n0 : ¬ w.heap.size = g := by omega
  have n1 : ¬ w.heap.size + 1 = g := by omega
  have n2 : ¬ W3.heap.size = g := by have := HX.out.2.1.size; omega
  have K4 := Lib.hid F4.out.c
  dsimp only at e0 e1 e2 e3 e4 e5 dp
  obtain ⟨m0, m1, m2, m3, m4, m5⟩ := C.out
  clear C dp
  go_wp2_with (fail)
  clear e0 e1 e2 e3 e4 e5 m0 m1 m2 m3 m4 m5 E h0 h1
  refine wp_region_held_drew (S := (fun W => W.cell? ⟨w.heap.size, 0, none⟩ = some (.slice (some ⟨b, o, none⟩) N.length cap) ∧ W.cell? ⟨w.heap.size, 1, none⟩ = some (.slice (some ⟨g, 0, none⟩) N.length sc) ∧
    W.cell? ⟨w.heap.size + 1, 0, none⟩ = some (.int .i64 x) ∧ W.cell? ⟨w.heap.size + 1, 1, none⟩ = some (.int .i64 y) ∧ W.cell? ⟨w.heap.size + 1, 2, none⟩ = some (.bool hl) ∧ W.cell? ⟨w.heap.size + 1, 3, none⟩ = some (.bool hh) ∧
    W.cell? ⟨W3.heap.size, 0, none⟩ = some (.bool true) ∧ W.cell? ⟨W3.heap.size, 1, none⟩ = some (.int .i64 k) ∧ W.cell? ⟨W3.heap.size, 2, none⟩ = some (.int .i64 l) ∧ W.cell? ⟨W3.heap.size, 3, none⟩ = some (.int .i64 b') ∧
    W.cell? ⟨W3.heap.size, 4, none⟩ = some (.slice pa p.length pc) ∧ W.cell? ⟨W3.heap.size, 5, none⟩ = some (.int .i64 s))) (by kernel_rfl) (K4.out) (fun hHeld => ?_)
  refine tk 0 ?_ rfl (by kernel_rfl) (fun _ _ _ h => h) ⟨by rfl, ?_⟩ hHeld ?_; rotate_left
  · intro wS hSw; (try dsimp only at hSw); (try go_split_ands); go_simp; try with_reducible rfl
  refine tk 1 ?_ rfl (by kernel_rfl) (fun _ _ _ h => h) ⟨by rfl, ?_⟩ hHeld ?_; rotate_left
  · intro wS hSw; (try dsimp only at hSw); (try go_split_ands); go_simp; try with_reducible rfl
  try simp only [List.getElem_toArray, List.getElem_cons_succ, List.getElem_cons_zero, Act.put, List.setIfInBounds_toArray, List.set_cons_zero, List.set_cons_succ]
  refine wpAnyH_ready (rs := [2]) (by kernel_rfl) (by simp) ?_
  refine AllReadyH.cons rfl (fun K hK => ?_) AllReadyH.nil
  go_simp
  go_at_call 68; ((with_reducible refine (cm _).mono ?_); rintro e w5 ⟨rfl, hb5⟩); have F5 := Lib.hid (F4.out.keep hb5)
  refine hK.out _ _ ?_ (fun hNext => ?_)
  · exact F5.out.c
  clear hK K hHeld
  have hHeld := hNext
  clear hNext
  try simp only [List.getElem_toArray, List.getElem_cons_succ, List.getElem_cons_zero, Act.put, List.setIfInBounds_toArray, List.set_cons_zero, List.set_cons_succ]
  refine tk 3 ?_ rfl (by kernel_rfl) (fun _ _ _ h => h) ⟨by rfl, ?_⟩ hHeld ?_; rotate_left
  · intro wS hSw; (try dsimp only at hSw); (try go_split_ands); go_simp; try with_reducible rfl
  try simp only [List.getElem_toArray, List.getElem_cons_succ, List.getElem_cons_zero, Act.put, List.setIfInBounds_toArray, List.set_cons_zero, List.set_cons_succ]
  refine wpAnyH_take (i := 4) (v := undef) rfl (by kernel_rfl) (by kernel_rfl) (by kernel_rfl) (fun _ _ _ h => h) (Or.inr ⟨by rfl, rfl⟩) hHeld ?_
  try simp only [List.getElem_toArray, List.getElem_cons_succ, List.getElem_cons_zero, Act.put, List.setIfInBounds_toArray, List.set_cons_zero, List.set_cons_succ]
  refine wpAnyH_take (i := 5) (v := undef) rfl (by kernel_rfl) (by kernel_rfl) (by kernel_rfl) (fun _ _ _ h => h) (Or.inr ⟨by rfl, rfl⟩) hHeld ?_
  try simp only [List.getElem_toArray, List.getElem_cons_succ, List.getElem_cons_zero, Act.put, List.setIfInBounds_toArray, List.set_cons_zero, List.set_cons_succ]
  refine wpAnyH_take (i := 6) (v := undef) rfl (by kernel_rfl) (by kernel_rfl) (by kernel_rfl) (fun _ _ _ h => h) (Or.inr ⟨by rfl, rfl⟩) hHeld ?_
  try simp only [List.getElem_toArray, List.getElem_cons_succ, List.getElem_cons_zero, Act.put, List.setIfInBounds_toArray, List.set_cons_zero, List.set_cons_succ]
  refine wpAnyH_take (i := 7) (v := undef) rfl (by kernel_rfl) (by kernel_rfl) (by kernel_rfl) (fun _ _ _ h => h) (Or.inr ⟨by rfl, rfl⟩) hHeld ?_
  try simp only [List.getElem_toArray, List.getElem_cons_succ, List.getElem_cons_zero, Act.put, List.setIfInBounds_toArray, List.set_cons_zero, List.set_cons_succ]
  refine wpAnyH_take (i := 8) (v := undef) rfl (by kernel_rfl) (by kernel_rfl) (by kernel_rfl) (fun _ _ _ h => h) (Or.inr ⟨by rfl, rfl⟩) hHeld ?_
  try simp only [List.getElem_toArray, List.getElem_cons_succ, List.getElem_cons_zero, Act.put, List.setIfInBounds_toArray, List.set_cons_zero, List.set_cons_succ]
  refine wpAnyH_take (i := 9) (v := undef) rfl (by kernel_rfl) (by kernel_rfl) (by kernel_rfl) (fun _ _ _ h => h) (Or.inr ⟨by rfl, rfl⟩) hHeld ?_
  try simp only [List.getElem_toArray, List.getElem_cons_succ, List.getElem_cons_zero, Act.put, List.setIfInBounds_toArray, List.set_cons_zero, List.set_cons_succ]
  refine wpAnyH_take (i := 10) (v := undef) rfl (by kernel_rfl) (by kernel_rfl) (by kernel_rfl) (fun _ _ _ h => h) (Or.inr ⟨by rfl, rfl⟩) hHeld ?_
  try simp only [List.getElem_toArray, List.getElem_cons_succ, List.getElem_cons_zero, Act.put, List.setIfInBounds_toArray, List.set_cons_zero, List.set_cons_succ]
  refine wpAnyH_take (i := 11) (v := undef) rfl (by kernel_rfl) (by kernel_rfl) (by kernel_rfl) (fun _ _ _ h => h) (Or.inr ⟨by rfl, rfl⟩) hHeld ?_
  try simp only [List.getElem_toArray, List.getElem_cons_succ, List.getElem_cons_zero, Act.put, List.setIfInBounds_toArray, List.set_cons_zero, List.set_cons_succ]
  refine tk 12 ?_ rfl (by kernel_rfl) (fun _ _ _ h => h) ⟨by rfl, ?_⟩ hHeld ?_; rotate_left
  · intro wS hSw; (try dsimp only at hSw); (try go_split_ands); go_simp; try with_reducible rfl
  refine tk 13 ?_ rfl (by kernel_rfl) (fun _ _ _ h => h) ⟨by rfl, ?_⟩ hHeld ?_; rotate_left
  · intro wS hSw; (try dsimp only at hSw); (try go_split_ands); go_simp; try with_reducible rfl
  try simp only [List.getElem_toArray, List.getElem_cons_succ, List.getElem_cons_zero, Act.put, List.setIfInBounds_toArray, List.set_cons_zero, List.set_cons_succ]
  refine wpAnyH_take (i := 14) (v := undef) rfl (by kernel_rfl) (by kernel_rfl) (by kernel_rfl) (fun _ _ _ h => h) (Or.inr ⟨by rfl, rfl⟩) hHeld ?_
  try simp only [List.getElem_toArray, List.getElem_cons_succ, List.getElem_cons_zero, Act.put, List.setIfInBounds_toArray, List.set_cons_zero, List.set_cons_succ]
  refine wpAnyH_take (i := 15) (v := undef) rfl (by kernel_rfl) (by kernel_rfl) (by kernel_rfl) (fun _ _ _ h => h) (Or.inr ⟨by rfl, rfl⟩) hHeld ?_
  try simp only [List.getElem_toArray, List.getElem_cons_succ, List.getElem_cons_zero, Act.put, List.setIfInBounds_toArray, List.set_cons_zero, List.set_cons_succ]
  refine wpAnyH_take (i := 16) (v := undef) rfl (by kernel_rfl) (by kernel_rfl) (by kernel_rfl) (fun _ _ _ h => h) (Or.inr ⟨by rfl, rfl⟩) hHeld ?_
  try simp only [List.getElem_toArray, List.getElem_cons_succ, List.getElem_cons_zero, Act.put, List.setIfInBounds_toArray, List.set_cons_zero, List.set_cons_succ]
  refine wpAnyH_take (i := 17) (v := undef) rfl (by kernel_rfl) (by kernel_rfl) (by kernel_rfl) (fun _ _ _ h => h) (Or.inr ⟨by rfl, rfl⟩) hHeld ?_
  try simp only [List.getElem_toArray, List.getElem_cons_succ, List.getElem_cons_zero, Act.put, List.setIfInBounds_toArray, List.set_cons_zero, List.set_cons_succ]
  refine wpAnyH_take (i := 18) (v := undef) rfl (by kernel_rfl) (by kernel_rfl) (by kernel_rfl) (fun _ _ _ h => h) (Or.inr ⟨by rfl, rfl⟩) hHeld ?_
  try simp only [List.getElem_toArray, List.getElem_cons_succ, List.getElem_cons_zero, Act.put, List.setIfInBounds_toArray, List.set_cons_zero, List.set_cons_succ]
  refine wpAnyH_take (i := 19) (v := undef) rfl (by kernel_rfl) (by kernel_rfl) (by kernel_rfl) (fun _ _ _ h => h) (Or.inr ⟨by rfl, rfl⟩) hHeld ?_
  try simp only [List.getElem_toArray, List.getElem_cons_succ, List.getElem_cons_zero, Act.put, List.setIfInBounds_toArray, List.set_cons_zero, List.set_cons_succ]
  refine wpAnyH_take (i := 20) (v := undef) rfl (by kernel_rfl) (by kernel_rfl) (by kernel_rfl) (fun _ _ _ h => h) (Or.inr ⟨by rfl, rfl⟩) hHeld ?_
  try simp only [List.getElem_toArray, List.getElem_cons_succ, List.getElem_cons_zero, Act.put, List.setIfInBounds_toArray, List.set_cons_zero, List.set_cons_succ]
  refine wpAnyH_take (i := 21) (v := undef) rfl (by kernel_rfl) (by kernel_rfl) (by kernel_rfl) (fun _ _ _ h => h) (Or.inr ⟨by rfl, rfl⟩) hHeld ?_
  try simp only [List.getElem_toArray, List.getElem_cons_succ, List.getElem_cons_zero, Act.put, List.setIfInBounds_toArray, List.set_cons_zero, List.set_cons_succ]
  refine tk 22 ?_ rfl (by kernel_rfl) (fun _ _ _ h => h) ⟨by rfl, ?_⟩ hHeld ?_; rotate_left
  · intro wS hSw; (try dsimp only at hSw); (try go_split_ands); go_simp; try with_reducible rfl
  refine tk 23 ?_ rfl (by kernel_rfl) (fun _ _ _ h => h) ⟨by rfl, ?_⟩ hHeld ?_; rotate_left
  · intro wS hSw; (try dsimp only at hSw); (try go_split_ands); go_simp; try with_reducible rfl
  try simp only [List.getElem_toArray, List.getElem_cons_succ, List.getElem_cons_zero, Act.put, List.setIfInBounds_toArray, List.set_cons_zero, List.set_cons_succ]
  refine wpAnyH_done (by kernel_rfl) ?_ _
  go_wp2_with (fail)
  go_ret
  exact ⟨_, rfl, by rw [List.length_set], F5.out.b, F5.out.o⟩
set_option maxRecDepth 100000 in
set_option maxHeartbeats 6400000 in
theorem from_no2 (hN : Ns w0 a cap N) (hsm : Small N) (hg0 : w0.heap.size ≤ g) {i : Nat} {n : Nd} (hn : N[i]? = some n) (hr : n.r = true) {sn : List Bool} (hsl : sn.length = N.length) (hs : sn[i]? = some false) {x y : Int} {hl hh : Bool} {w : World} (hbw : Below w0.heap.size w0 w) (hB : Bs w g sn) {t : Int} (ht : t = (i : Int)) (hk : okR n (oo hl x) (oo hh y)) {f : Nat} (hf : cnt sn < f + 1) (IH : FromOk w0 a cap N g sc f) (hL : ∀ s, ¬ Part N (sn.set i true) n.a (oo hl x) (some n.k) s) :
    Calls Try.prog 36 #[.agg #[.slice a N.length cap, .slice (some ⟨g, 0, none⟩) N.length sc], .int .i64 t, spv x y hl hh] w fun e w' => ∃ sn', e = .returned (.bool false) ∧ sn'.length = sn.length ∧ Bs w' g sn' ∧ Only (fun k => k = g) w w' := by
  subst ht
  have hil := (List.getElem?_eq_some_iff.1 hn).1
  have hl1 := hsm.1
  have hc1 := hN.1
  have hc2 := hN.2.1
  have hpl := hsm.at hn
  unfold maxLen at hc2
  obtain ⟨b, o, pa, pc, rfl, hna0⟩ := hN.2.2 i n hn
  have hna := hna0.keep hbw
  have hbl := World.block_lt_of_cell? w0 _ hna0.c0
  dsimp only at hbl
  have hgb : g ≠ b := by omega
  obtain ⟨r, k, l, b', p, s⟩ := n
  dsimp only at hr hpl
  subst hr
  have o2 : Below w.heap.size w ((w.alloc (.cells #[.slice (some ⟨b, o, none⟩) N.length cap, .slice (some ⟨g, 0, none⟩) N.length sc] 76)).alloc (.cells #[.int .i64 x, .int .i64 y, .bool hl, .bool hh] 79)) := bel1 (al1 _) _
  have c0 := kc o2 (hB.at_ i _ hs)
  have B2 := hB.keep o2
  have f0 := B2.fr i
  have B3 := B2.set i (by omega) true
  have bw3 : Below w0.heap.size w0 (((w.alloc (.cells #[.slice (some ⟨b, o, none⟩) N.length cap, .slice (some ⟨g, 0, none⟩) N.length sc] 76)).alloc (.cells #[.int .i64 x, .int .i64 y, .bool hl, .bool hh] 79)).setCell ⟨g, i, none⟩ (.bool true)) := (hbw.trans (o2.mono hbw.size)).setCell hg0 _
  have O3 : Only (fun j => j = g) w (((w.alloc (.cells #[.slice (some ⟨b, o, none⟩) N.length cap, .slice (some ⟨g, 0, none⟩) N.length sc] 76)).alloc (.cells #[.int .i64 x, .int .i64 y, .bool hl, .bool hh] 79)).setCell ⟨g, i, none⟩ (.bool true)) := (Only.ofBelow o2).setCell (S := fun j => j = g) (p := ⟨g, i, none⟩) (.inl rfl) _
  have cm := fun W => mayroute_any ⟨true, k, l, b', p, s⟩ pa pc x y hl hh W (by dsimp only; omega) true (by simp [hk])
  have cs := fun W => left_any x y k hl hh W
  have cl := fun W (hB : Bs W g (sn.set i true)) (hb : Below w0.heap.size w0 W) => IH (sn.set i true) l x k hl true W (cntn (l := []) hs hf).1 (by rw [List.length_set]; exact hsl) hB hb false (⟨fun h => (by cases h), fun ⟨z, hz⟩ => absurd hz (hL z)⟩)
  clear hk hL IH hf
  unfold ndv at cm
  unfold spv at *
  dsimp only at cm
  have E := Lib.hid (hna0.keep bw3)
  have C := Lib.hid (c6_make (a := some ⟨b, o, none⟩) (nl := N.length) (cap := cap) (sc := sc) (x := x) (y := y) (hl := hl) (hh := hh) (w := w) (i := i) hB.lt)
  have h0 : (0 : Int) ≤ (i : Int) := by omega
  have h1 : (i : Int) < (N.length : Int) := by omega
  have HX := Lib.hid (And.intro B3 (And.intro O3 bw3))
  have HG := Lib.hid hB.lt
  clear hs B2 hna0 hna hN hsm hn hB hbw B3 o2 O3 bw3
  go_enter Try.func36, Try.ntmps36
  go_upto_region 4 with (fail)
  generalize (World.setCell _ _ _ : World) = W3 at *
  obtain ⟨e0, e1, e2, e3, e4, e5, dp⟩ := E.out
  have F4 := Lib.hid ((show Fz w w0 (W3.alloc (.cells #[.bool true, .int .i64 k, .int .i64 l, .int .i64 b', .slice pa p.length pc, .int .i64 s] 49)) (sn.set i true) w.heap.size (w.heap.size + 1) W3.heap.size (some ⟨b, o, none⟩) N.length cap g sc x y hl hh true k l b' pa p.length pc s from
    ⟨C.out.node, HX.out.1.keep (al1 _), HX.out.2.1.alloc _, HX.out.2.2.alloc HX.out.2.2.size _⟩).drew)
  have hgW : g < w.heap.size := HG.out
  have n0 : ¬ w.heap.size = g := by omega
  have n1 : ¬ w.heap.size + 1 = g := by omega
  have n2 : ¬ W3.heap.size = g := by have := HX.out.2.1.size; omega
  have K4 := Lib.hid F4.out.c
  dsimp only at e0 e1 e2 e3 e4 e5 dp
  obtain ⟨m0, m1, m2, m3, m4, m5⟩ := C.out
  clear C dp
  go_wp2_with (fail)
  clear e0 e1 e2 e3 e4 e5 m0 m1 m2 m3 m4 m5 E h0 h1
  refine wp_region_held_drew (S := (fun W => W.cell? ⟨w.heap.size, 0, none⟩ = some (.slice (some ⟨b, o, none⟩) N.length cap) ∧ W.cell? ⟨w.heap.size, 1, none⟩ = some (.slice (some ⟨g, 0, none⟩) N.length sc) ∧
    W.cell? ⟨w.heap.size + 1, 0, none⟩ = some (.int .i64 x) ∧ W.cell? ⟨w.heap.size + 1, 1, none⟩ = some (.int .i64 y) ∧ W.cell? ⟨w.heap.size + 1, 2, none⟩ = some (.bool hl) ∧ W.cell? ⟨w.heap.size + 1, 3, none⟩ = some (.bool hh) ∧
    W.cell? ⟨W3.heap.size, 0, none⟩ = some (.bool true) ∧ W.cell? ⟨W3.heap.size, 1, none⟩ = some (.int .i64 k) ∧ W.cell? ⟨W3.heap.size, 2, none⟩ = some (.int .i64 l) ∧ W.cell? ⟨W3.heap.size, 3, none⟩ = some (.int .i64 b') ∧
    W.cell? ⟨W3.heap.size, 4, none⟩ = some (.slice pa p.length pc) ∧ W.cell? ⟨W3.heap.size, 5, none⟩ = some (.int .i64 s))) (by kernel_rfl) (K4.out) (fun hHeld => ?_)
  refine tk 0 ?_ rfl (by kernel_rfl) (fun _ _ _ h => h) ⟨by rfl, ?_⟩ hHeld ?_; rotate_left
  · intro wS hSw; (try dsimp only at hSw); (try go_split_ands); go_simp; try with_reducible rfl
  refine tk 1 ?_ rfl (by kernel_rfl) (fun _ _ _ h => h) ⟨by rfl, ?_⟩ hHeld ?_; rotate_left
  · intro wS hSw; (try dsimp only at hSw); (try go_split_ands); go_simp; try with_reducible rfl
  try simp only [List.getElem_toArray, List.getElem_cons_succ, List.getElem_cons_zero, Act.put, List.setIfInBounds_toArray, List.set_cons_zero, List.set_cons_succ]
  refine wpAnyH_ready (rs := [2]) (by kernel_rfl) (by simp) ?_
  refine AllReadyH.cons rfl (fun K hK => ?_) AllReadyH.nil
  go_simp
  go_at_call 68; ((with_reducible refine (cm _).mono ?_); rintro e w5 ⟨rfl, hb5⟩); have F5 := Lib.hid (F4.out.keep hb5)
  refine hK.out _ _ ?_ (fun hNext => ?_)
  · exact F5.out.c
  clear hK K hHeld
  have hHeld := hNext
  clear hNext
  try simp only [List.getElem_toArray, List.getElem_cons_succ, List.getElem_cons_zero, Act.put, List.setIfInBounds_toArray, List.set_cons_zero, List.set_cons_succ]
  refine tk 3 ?_ rfl (by kernel_rfl) (fun _ _ _ h => h) ⟨by rfl, ?_⟩ hHeld ?_; rotate_left
  · intro wS hSw; (try dsimp only at hSw); (try go_split_ands); go_simp; try with_reducible rfl
  refine tk 4 ?_ rfl (by kernel_rfl) (fun _ _ _ h => h) ⟨by rfl, ?_⟩ hHeld ?_; rotate_left
  · intro wS hSw; (try dsimp only at hSw); (try go_split_ands); go_simp; try with_reducible rfl
  refine tk 5 ?_ rfl (by kernel_rfl) (fun _ _ _ h => h) ⟨by rfl, ?_⟩ hHeld ?_; rotate_left
  · intro wS hSw; (try dsimp only at hSw); (try go_split_ands); go_simp; try with_reducible rfl
  refine tk 6 ?_ rfl (by kernel_rfl) (fun _ _ _ h => h) ⟨by rfl, ?_⟩ hHeld ?_; rotate_left
  · intro wS hSw; (try dsimp only at hSw); (try go_split_ands); go_simp; try with_reducible rfl
  refine tk 7 ?_ rfl (by kernel_rfl) (fun _ _ _ h => h) ⟨by rfl, ?_⟩ hHeld ?_; rotate_left
  · intro wS hSw; (try dsimp only at hSw); (try go_split_ands); go_simp; try with_reducible rfl
  refine tk 8 ?_ rfl (by kernel_rfl) (fun _ _ _ h => h) ⟨by rfl, ?_⟩ hHeld ?_; rotate_left
  · intro wS hSw; (try dsimp only at hSw); (try go_split_ands); go_simp; try with_reducible rfl
  refine tk 9 ?_ rfl (by kernel_rfl) (fun _ _ _ h => h) ⟨by rfl, ?_⟩ hHeld ?_; rotate_left
  · intro wS hSw; (try dsimp only at hSw); (try go_split_ands); go_simp; try with_reducible rfl
  try simp only [List.getElem_toArray, List.getElem_cons_succ, List.getElem_cons_zero, Act.put, List.setIfInBounds_toArray, List.set_cons_zero, List.set_cons_succ]
  refine wpAnyH_ready (rs := [10]) (by kernel_rfl) (by simp) ?_
  refine AllReadyH.cons rfl (fun K hK => ?_) AllReadyH.nil
  go_simp
  go_at_call 69; ((with_reducible refine (cs _).mono ?_); rintro e w6 ⟨rfl, hb6⟩); have F6 := Lib.hid (F5.out.keep hb6)
  refine hK.out _ _ ?_ (fun hNext => ?_)
  · exact F6.out.c
  clear hK K hHeld
  have hHeld := hNext
  clear hNext
  try simp only [List.getElem_toArray, List.getElem_cons_succ, List.getElem_cons_zero, Act.put, List.setIfInBounds_toArray, List.set_cons_zero, List.set_cons_succ]
  refine wpAnyH_ready (rs := [11]) (by kernel_rfl) (by simp) ?_
  refine AllReadyH.cons rfl (fun K hK => ?_) AllReadyH.nil
  go_simp
  go_at_call 36; ((with_reducible refine (cl _ F6.out.b F6.out.z).mono ?_); rintro e w7 ⟨rfl, sn7, hl7, hB7, hO7, hM7⟩); have F7 := Lib.hid (F6.out.only hO7 hB7 hg0 n0 n1 n2)
  refine hK.out _ _ ?_ (fun hNext => ?_)
  · exact F7.out.c
  clear hK K hHeld
  have hHeld := hNext
  clear hNext
  try simp only [List.getElem_toArray, List.getElem_cons_succ, List.getElem_cons_zero, Act.put, List.setIfInBounds_toArray, List.set_cons_zero, List.set_cons_succ]
  refine tk 12 ?_ rfl (by kernel_rfl) (fun _ _ _ h => h) ⟨by rfl, ?_⟩ hHeld ?_; rotate_left
  · intro wS hSw; (try dsimp only at hSw); (try go_split_ands); go_simp; try with_reducible rfl
  refine tk 13 ?_ rfl (by kernel_rfl) (fun _ _ _ h => h) ⟨by rfl, ?_⟩ hHeld ?_; rotate_left
  · intro wS hSw; (try dsimp only at hSw); (try go_split_ands); go_simp; try with_reducible rfl
  try simp only [List.getElem_toArray, List.getElem_cons_succ, List.getElem_cons_zero, Act.put, List.setIfInBounds_toArray, List.set_cons_zero, List.set_cons_succ]
  refine wpAnyH_take (i := 14) (v := undef) rfl (by kernel_rfl) (by kernel_rfl) (by kernel_rfl) (fun _ _ _ h => h) (Or.inr ⟨by rfl, rfl⟩) hHeld ?_
  try simp only [List.getElem_toArray, List.getElem_cons_succ, List.getElem_cons_zero, Act.put, List.setIfInBounds_toArray, List.set_cons_zero, List.set_cons_succ]
  refine wpAnyH_take (i := 15) (v := undef) rfl (by kernel_rfl) (by kernel_rfl) (by kernel_rfl) (fun _ _ _ h => h) (Or.inr ⟨by rfl, rfl⟩) hHeld ?_
  try simp only [List.getElem_toArray, List.getElem_cons_succ, List.getElem_cons_zero, Act.put, List.setIfInBounds_toArray, List.set_cons_zero, List.set_cons_succ]
  refine wpAnyH_take (i := 16) (v := undef) rfl (by kernel_rfl) (by kernel_rfl) (by kernel_rfl) (fun _ _ _ h => h) (Or.inr ⟨by rfl, rfl⟩) hHeld ?_
  try simp only [List.getElem_toArray, List.getElem_cons_succ, List.getElem_cons_zero, Act.put, List.setIfInBounds_toArray, List.set_cons_zero, List.set_cons_succ]
  refine wpAnyH_take (i := 17) (v := undef) rfl (by kernel_rfl) (by kernel_rfl) (by kernel_rfl) (fun _ _ _ h => h) (Or.inr ⟨by rfl, rfl⟩) hHeld ?_
  try simp only [List.getElem_toArray, List.getElem_cons_succ, List.getElem_cons_zero, Act.put, List.setIfInBounds_toArray, List.set_cons_zero, List.set_cons_succ]
  refine wpAnyH_take (i := 18) (v := undef) rfl (by kernel_rfl) (by kernel_rfl) (by kernel_rfl) (fun _ _ _ h => h) (Or.inr ⟨by rfl, rfl⟩) hHeld ?_
  try simp only [List.getElem_toArray, List.getElem_cons_succ, List.getElem_cons_zero, Act.put, List.setIfInBounds_toArray, List.set_cons_zero, List.set_cons_succ]
  refine wpAnyH_take (i := 19) (v := undef) rfl (by kernel_rfl) (by kernel_rfl) (by kernel_rfl) (fun _ _ _ h => h) (Or.inr ⟨by rfl, rfl⟩) hHeld ?_
  try simp only [List.getElem_toArray, List.getElem_cons_succ, List.getElem_cons_zero, Act.put, List.setIfInBounds_toArray, List.set_cons_zero, List.set_cons_succ]
  refine wpAnyH_take (i := 20) (v := undef) rfl (by kernel_rfl) (by kernel_rfl) (by kernel_rfl) (fun _ _ _ h => h) (Or.inr ⟨by rfl, rfl⟩) hHeld ?_
  try simp only [List.getElem_toArray, List.getElem_cons_succ, List.getElem_cons_zero, Act.put, List.setIfInBounds_toArray, List.set_cons_zero, List.set_cons_succ]
  refine wpAnyH_take (i := 21) (v := undef) rfl (by kernel_rfl) (by kernel_rfl) (by kernel_rfl) (fun _ _ _ h => h) (Or.inr ⟨by rfl, rfl⟩) hHeld ?_
  try simp only [List.getElem_toArray, List.getElem_cons_succ, List.getElem_cons_zero, Act.put, List.setIfInBounds_toArray, List.set_cons_zero, List.set_cons_succ]
  refine tk 22 ?_ rfl (by kernel_rfl) (fun _ _ _ h => h) ⟨by rfl, ?_⟩ hHeld ?_; rotate_left
  · intro wS hSw; (try dsimp only at hSw); (try go_split_ands); go_simp; try with_reducible rfl
  refine tk 23 ?_ rfl (by kernel_rfl) (fun _ _ _ h => h) ⟨by rfl, ?_⟩ hHeld ?_; rotate_left
  · intro wS hSw; (try dsimp only at hSw); (try go_split_ands); go_simp; try with_reducible rfl
  try simp only [List.getElem_toArray, List.getElem_cons_succ, List.getElem_cons_zero, Act.put, List.setIfInBounds_toArray, List.set_cons_zero, List.set_cons_succ]
  refine wpAnyH_done (by kernel_rfl) ?_ _
  go_wp2_with (fail)
  go_ret
  exact ⟨sn7, rfl, by rw [hl7, List.length_set], F7.out.b, F7.out.o⟩
set_option maxRecDepth 100000 in
set_option maxHeartbeats 6400000 in
theorem from_no3 (hN : Ns w0 a cap N) (hsm : Small N) (hg0 : w0.heap.size ≤ g) {i : Nat} {n : Nd} (hn : N[i]? = some n) (hr : n.r = true) {sn : List Bool} (hsl : sn.length = N.length) (hs : sn[i]? = some false) {x y : Int} {hl hh : Bool} {w : World} (hbw : Below w0.heap.size w0 w) (hB : Bs w g sn) {t : Int} (ht : t = (i : Int)) (hk : okR n (oo hl x) (oo hh y)) {f : Nat} (hf : cnt sn < f + 1) (IH : FromOk w0 a cap N g sc f) {sl : Sh} (hL : Part N (sn.set i true) n.a (oo hl x) (some n.k) sl) (hR : ∀ s, ¬ Part N (mark (sn.set i true) sl.pre) n.b (some n.k) (oo hh y) s) :
    Calls Try.prog 36 #[.agg #[.slice a N.length cap, .slice (some ⟨g, 0, none⟩) N.length sc], .int .i64 t, spv x y hl hh] w fun e w' => ∃ sn', e = .returned (.bool false) ∧ sn'.length = sn.length ∧ Bs w' g sn' ∧ Only (fun k => k = g) w w' := by
  subst ht
  have hil := (List.getElem?_eq_some_iff.1 hn).1
  have hl1 := hsm.1
  have hc1 := hN.1
  have hc2 := hN.2.1
  have hpl := hsm.at hn
  unfold maxLen at hc2
  obtain ⟨b, o, pa, pc, rfl, hna0⟩ := hN.2.2 i n hn
  have hna := hna0.keep hbw
  have hbl := World.block_lt_of_cell? w0 _ hna0.c0
  dsimp only at hbl
  have hgb : g ≠ b := by omega
  obtain ⟨r, k, l, b', p, s⟩ := n
  dsimp only at hr hpl
  subst hr
  have o2 : Below w.heap.size w ((w.alloc (.cells #[.slice (some ⟨b, o, none⟩) N.length cap, .slice (some ⟨g, 0, none⟩) N.length sc] 76)).alloc (.cells #[.int .i64 x, .int .i64 y, .bool hl, .bool hh] 79)) := bel1 (al1 _) _
  have c0 := kc o2 (hB.at_ i _ hs)
  have B2 := hB.keep o2
  have f0 := B2.fr i
  have B3 := B2.set i (by omega) true
  have bw3 : Below w0.heap.size w0 (((w.alloc (.cells #[.slice (some ⟨b, o, none⟩) N.length cap, .slice (some ⟨g, 0, none⟩) N.length sc] 76)).alloc (.cells #[.int .i64 x, .int .i64 y, .bool hl, .bool hh] 79)).setCell ⟨g, i, none⟩ (.bool true)) := (hbw.trans (o2.mono hbw.size)).setCell hg0 _
  have O3 : Only (fun j => j = g) w (((w.alloc (.cells #[.slice (some ⟨b, o, none⟩) N.length cap, .slice (some ⟨g, 0, none⟩) N.length sc] 76)).alloc (.cells #[.int .i64 x, .int .i64 y, .bool hl, .bool hh] 79)).setCell ⟨g, i, none⟩ (.bool true)) := (Only.ofBelow o2).setCell (S := fun j => j = g) (p := ⟨g, i, none⟩) (.inl rfl) _
  have cm := fun W => mayroute_any ⟨true, k, l, b', p, s⟩ pa pc x y hl hh W (by dsimp only; omega) true (by simp [hk])
  have cs := fun W => left_any x y k hl hh W
  have cl := fun W (hB : Bs W g (sn.set i true)) (hb : Below w0.heap.size w0 W) => IH (sn.set i true) l x k hl true W (cntn (l := []) hs hf).1 (by rw [List.length_set]; exact hsl) hB hb true (⟨fun _ => ⟨sl, hL⟩, fun _ => rfl⟩)
  have cr := fun W => right_any x y k hl hh W
  have cq := fun W (hB : Bs W g (mark (sn.set i true) sl.pre)) (hb : Below w0.heap.size w0 W) => IH (mark (sn.set i true) sl.pre) b' k y true hh W (cntn hs hf).2 (by rw [mark_len, List.length_set]; exact hsl) hB hb false (⟨fun h => (by cases h), fun ⟨z, hz⟩ => absurd hz (hR z)⟩)
  have HL := Lib.hid hL
  clear hk hL hR IH hf
  unfold ndv at cm
  unfold spv at *
  dsimp only at cm
  have E := Lib.hid (hna0.keep bw3)
  have C := Lib.hid (c6_make (a := some ⟨b, o, none⟩) (nl := N.length) (cap := cap) (sc := sc) (x := x) (y := y) (hl := hl) (hh := hh) (w := w) (i := i) hB.lt)
  have h0 : (0 : Int) ≤ (i : Int) := by omega
  have h1 : (i : Int) < (N.length : Int) := by omega
  have HX := Lib.hid (And.intro B3 (And.intro O3 bw3))
  have HG := Lib.hid hB.lt
  clear hs B2 hna0 hna hN hsm hn hB hbw B3 o2 O3 bw3
  go_enter Try.func36, Try.ntmps36
  go_upto_region 4 with (fail)
  generalize (World.setCell _ _ _ : World) = W3 at *
  obtain ⟨e0, e1, e2, e3, e4, e5, dp⟩ := E.out
  have F4 := Lib.hid ((show Fz w w0 (W3.alloc (.cells #[.bool true, .int .i64 k, .int .i64 l, .int .i64 b', .slice pa p.length pc, .int .i64 s] 49)) (sn.set i true) w.heap.size (w.heap.size + 1) W3.heap.size (some ⟨b, o, none⟩) N.length cap g sc x y hl hh true k l b' pa p.length pc s from
    ⟨C.out.node, HX.out.1.keep (al1 _), HX.out.2.1.alloc _, HX.out.2.2.alloc HX.out.2.2.size _⟩).drew)
  have hgW : g < w.heap.size := HG.out
  have n0 : ¬ w.heap.size = g := by omega
  have n1 : ¬ w.heap.size + 1 = g := by omega
  have n2 : ¬ W3.heap.size = g := by have := HX.out.2.1.size; omega
  have K4 := Lib.hid F4.out.c
  dsimp only at e0 e1 e2 e3 e4 e5 dp
  obtain ⟨m0, m1, m2, m3, m4, m5⟩ := C.out
  clear C dp
  go_wp2_with (fail)
  clear e0 e1 e2 e3 e4 e5 m0 m1 m2 m3 m4 m5 E h0 h1
  refine wp_region_held_drew (S := (fun W => W.cell? ⟨w.heap.size, 0, none⟩ = some (.slice (some ⟨b, o, none⟩) N.length cap) ∧ W.cell? ⟨w.heap.size, 1, none⟩ = some (.slice (some ⟨g, 0, none⟩) N.length sc) ∧
    W.cell? ⟨w.heap.size + 1, 0, none⟩ = some (.int .i64 x) ∧ W.cell? ⟨w.heap.size + 1, 1, none⟩ = some (.int .i64 y) ∧ W.cell? ⟨w.heap.size + 1, 2, none⟩ = some (.bool hl) ∧ W.cell? ⟨w.heap.size + 1, 3, none⟩ = some (.bool hh) ∧
    W.cell? ⟨W3.heap.size, 0, none⟩ = some (.bool true) ∧ W.cell? ⟨W3.heap.size, 1, none⟩ = some (.int .i64 k) ∧ W.cell? ⟨W3.heap.size, 2, none⟩ = some (.int .i64 l) ∧ W.cell? ⟨W3.heap.size, 3, none⟩ = some (.int .i64 b') ∧
    W.cell? ⟨W3.heap.size, 4, none⟩ = some (.slice pa p.length pc) ∧ W.cell? ⟨W3.heap.size, 5, none⟩ = some (.int .i64 s))) (by kernel_rfl) (K4.out) (fun hHeld => ?_)
  refine tk 0 ?_ rfl (by kernel_rfl) (fun _ _ _ h => h) ⟨by rfl, ?_⟩ hHeld ?_; rotate_left
  · intro wS hSw; (try dsimp only at hSw); (try go_split_ands); go_simp; try with_reducible rfl
  refine tk 1 ?_ rfl (by kernel_rfl) (fun _ _ _ h => h) ⟨by rfl, ?_⟩ hHeld ?_; rotate_left
  · intro wS hSw; (try dsimp only at hSw); (try go_split_ands); go_simp; try with_reducible rfl
  try simp only [List.getElem_toArray, List.getElem_cons_succ, List.getElem_cons_zero, Act.put, List.setIfInBounds_toArray, List.set_cons_zero, List.set_cons_succ]
  refine wpAnyH_ready (rs := [2]) (by kernel_rfl) (by simp) ?_
  refine AllReadyH.cons rfl (fun K hK => ?_) AllReadyH.nil
  go_simp
  go_at_call 68; ((with_reducible refine (cm _).mono ?_); rintro e w5 ⟨rfl, hb5⟩); have F5 := Lib.hid (F4.out.keep hb5)
  refine hK.out _ _ ?_ (fun hNext => ?_)
  · exact F5.out.c
  clear hK K hHeld
  have hHeld := hNext
  clear hNext
  try simp only [List.getElem_toArray, List.getElem_cons_succ, List.getElem_cons_zero, Act.put, List.setIfInBounds_toArray, List.set_cons_zero, List.set_cons_succ]
  refine tk 3 ?_ rfl (by kernel_rfl) (fun _ _ _ h => h) ⟨by rfl, ?_⟩ hHeld ?_; rotate_left
  · intro wS hSw; (try dsimp only at hSw); (try go_split_ands); go_simp; try with_reducible rfl
  refine tk 4 ?_ rfl (by kernel_rfl) (fun _ _ _ h => h) ⟨by rfl, ?_⟩ hHeld ?_; rotate_left
  · intro wS hSw; (try dsimp only at hSw); (try go_split_ands); go_simp; try with_reducible rfl
  refine tk 5 ?_ rfl (by kernel_rfl) (fun _ _ _ h => h) ⟨by rfl, ?_⟩ hHeld ?_; rotate_left
  · intro wS hSw; (try dsimp only at hSw); (try go_split_ands); go_simp; try with_reducible rfl
  refine tk 6 ?_ rfl (by kernel_rfl) (fun _ _ _ h => h) ⟨by rfl, ?_⟩ hHeld ?_; rotate_left
  · intro wS hSw; (try dsimp only at hSw); (try go_split_ands); go_simp; try with_reducible rfl
  refine tk 7 ?_ rfl (by kernel_rfl) (fun _ _ _ h => h) ⟨by rfl, ?_⟩ hHeld ?_; rotate_left
  · intro wS hSw; (try dsimp only at hSw); (try go_split_ands); go_simp; try with_reducible rfl
  refine tk 8 ?_ rfl (by kernel_rfl) (fun _ _ _ h => h) ⟨by rfl, ?_⟩ hHeld ?_; rotate_left
  · intro wS hSw; (try dsimp only at hSw); (try go_split_ands); go_simp; try with_reducible rfl
  refine tk 9 ?_ rfl (by kernel_rfl) (fun _ _ _ h => h) ⟨by rfl, ?_⟩ hHeld ?_; rotate_left
  · intro wS hSw; (try dsimp only at hSw); (try go_split_ands); go_simp; try with_reducible rfl
  try simp only [List.getElem_toArray, List.getElem_cons_succ, List.getElem_cons_zero, Act.put, List.setIfInBounds_toArray, List.set_cons_zero, List.set_cons_succ]
  refine wpAnyH_ready (rs := [10]) (by kernel_rfl) (by simp) ?_
  refine AllReadyH.cons rfl (fun K hK => ?_) AllReadyH.nil
  go_simp
  go_at_call 69; ((with_reducible refine (cs _).mono ?_); rintro e w6 ⟨rfl, hb6⟩); have F6 := Lib.hid (F5.out.keep hb6)
  refine hK.out _ _ ?_ (fun hNext => ?_)
  · exact F6.out.c
  clear hK K hHeld
  have hHeld := hNext
  clear hNext
  try simp only [List.getElem_toArray, List.getElem_cons_succ, List.getElem_cons_zero, Act.put, List.setIfInBounds_toArray, List.set_cons_zero, List.set_cons_succ]
  refine wpAnyH_ready (rs := [11]) (by kernel_rfl) (by simp) ?_
  refine AllReadyH.cons rfl (fun K hK => ?_) AllReadyH.nil
  go_simp
  go_at_call 36; ((with_reducible refine (cl _ F6.out.b F6.out.z).mono ?_); rintro e w7 ⟨rfl, sn7, hl7, hB7, hO7, hM7⟩); obtain rfl := hM7 sl HL.out; have F7 := Lib.hid (F6.out.only hO7 hB7 hg0 n0 n1 n2)
  refine hK.out _ _ ?_ (fun hNext => ?_)
  · exact F7.out.c
  clear hK K hHeld
  have hHeld := hNext
  clear hNext
  try simp only [List.getElem_toArray, List.getElem_cons_succ, List.getElem_cons_zero, Act.put, List.setIfInBounds_toArray, List.set_cons_zero, List.set_cons_succ]
  refine tk 12 ?_ rfl (by kernel_rfl) (fun _ _ _ h => h) ⟨by rfl, ?_⟩ hHeld ?_; rotate_left
  · intro wS hSw; (try dsimp only at hSw); (try go_split_ands); go_simp; try with_reducible rfl
  refine tk 13 ?_ rfl (by kernel_rfl) (fun _ _ _ h => h) ⟨by rfl, ?_⟩ hHeld ?_; rotate_left
  · intro wS hSw; (try dsimp only at hSw); (try go_split_ands); go_simp; try with_reducible rfl
  refine tk 14 ?_ rfl (by kernel_rfl) (fun _ _ _ h => h) ⟨by rfl, ?_⟩ hHeld ?_; rotate_left
  · intro wS hSw; (try dsimp only at hSw); (try go_split_ands); go_simp; try with_reducible rfl
  refine tk 15 ?_ rfl (by kernel_rfl) (fun _ _ _ h => h) ⟨by rfl, ?_⟩ hHeld ?_; rotate_left
  · intro wS hSw; (try dsimp only at hSw); (try go_split_ands); go_simp; try with_reducible rfl
  refine tk 16 ?_ rfl (by kernel_rfl) (fun _ _ _ h => h) ⟨by rfl, ?_⟩ hHeld ?_; rotate_left
  · intro wS hSw; (try dsimp only at hSw); (try go_split_ands); go_simp; try with_reducible rfl
  refine tk 17 ?_ rfl (by kernel_rfl) (fun _ _ _ h => h) ⟨by rfl, ?_⟩ hHeld ?_; rotate_left
  · intro wS hSw; (try dsimp only at hSw); (try go_split_ands); go_simp; try with_reducible rfl
  refine tk 18 ?_ rfl (by kernel_rfl) (fun _ _ _ h => h) ⟨by rfl, ?_⟩ hHeld ?_; rotate_left
  · intro wS hSw; (try dsimp only at hSw); (try go_split_ands); go_simp; try with_reducible rfl
  refine tk 19 ?_ rfl (by kernel_rfl) (fun _ _ _ h => h) ⟨by rfl, ?_⟩ hHeld ?_; rotate_left
  · intro wS hSw; (try dsimp only at hSw); (try go_split_ands); go_simp; try with_reducible rfl
  try simp only [List.getElem_toArray, List.getElem_cons_succ, List.getElem_cons_zero, Act.put, List.setIfInBounds_toArray, List.set_cons_zero, List.set_cons_succ]
  refine wpAnyH_ready (rs := [20]) (by kernel_rfl) (by simp) ?_
  refine AllReadyH.cons rfl (fun K hK => ?_) AllReadyH.nil
  go_simp
  go_at_call 70; ((with_reducible refine (cr _).mono ?_); rintro e w8 ⟨rfl, hb8⟩); have F8 := Lib.hid (F7.out.keep hb8)
  refine hK.out _ _ ?_ (fun hNext => ?_)
  · exact F8.out.c
  clear hK K hHeld
  have hHeld := hNext
  clear hNext
  try simp only [List.getElem_toArray, List.getElem_cons_succ, List.getElem_cons_zero, Act.put, List.setIfInBounds_toArray, List.set_cons_zero, List.set_cons_succ]
  refine wpAnyH_ready (rs := [21]) (by kernel_rfl) (by simp) ?_
  refine AllReadyH.cons rfl (fun K hK => ?_) AllReadyH.nil
  go_simp
  go_at_call 36; ((with_reducible refine (cq _ F8.out.b F8.out.z).mono ?_); rintro e w9 ⟨rfl, sn9, hl9, hB9, hO9, hM9⟩); have F9 := Lib.hid (F8.out.only hO9 hB9 hg0 n0 n1 n2)
  refine hK.out _ _ ?_ (fun hNext => ?_)
  · exact F9.out.c
  clear hK K hHeld
  have hHeld := hNext
  clear hNext
  try simp only [List.getElem_toArray, List.getElem_cons_succ, List.getElem_cons_zero, Act.put, List.setIfInBounds_toArray, List.set_cons_zero, List.set_cons_succ]
  refine tk 22 ?_ rfl (by kernel_rfl) (fun _ _ _ h => h) ⟨by rfl, ?_⟩ hHeld ?_; rotate_left
  · intro wS hSw; (try dsimp only at hSw); (try go_split_ands); go_simp; try with_reducible rfl
  refine tk 23 ?_ rfl (by kernel_rfl) (fun _ _ _ h => h) ⟨by rfl, ?_⟩ hHeld ?_; rotate_left
  · intro wS hSw; (try dsimp only at hSw); (try go_split_ands); go_simp; try with_reducible rfl
  try simp only [List.getElem_toArray, List.getElem_cons_succ, List.getElem_cons_zero, Act.put, List.setIfInBounds_toArray, List.set_cons_zero, List.set_cons_succ]
  refine wpAnyH_done (by kernel_rfl) ?_ _
  go_wp2_with (fail)
  go_ret
  exact ⟨sn9, rfl, by rw [hl9, mark_len, List.length_set], F9.out.b, F9.out.o⟩
set_option maxRecDepth 100000 in
set_option maxHeartbeats 6400000 in
theorem from_yes (hN : Ns w0 a cap N) (hsm : Small N) (hg0 : w0.heap.size ≤ g) {i : Nat} {n : Nd} (hn : N[i]? = some n) (hr : n.r = true) {sn : List Bool} (hsl : sn.length = N.length) (hs : sn[i]? = some false) {x y : Int} {hl hh : Bool} {w : World} (hbw : Below w0.heap.size w0 w) (hB : Bs w g sn) {t : Int} (ht : t = (i : Int)) (hk : okR n (oo hl x) (oo hh y)) {f : Nat} (hf : cnt sn < f + 1) (IH : FromOk w0 a cap N g sc f) {sl sr : Sh} (hL : Part N (sn.set i true) n.a (oo hl x) (some n.k) sl) (hR : Part N (mark (sn.set i true) sl.pre) n.b (some n.k) (oo hh y) sr) :
    Calls Try.prog 36 #[.agg #[.slice a N.length cap, .slice (some ⟨g, 0, none⟩) N.length sc], .int .i64 t, spv x y hl hh] w fun e w' => ∃ sn', e = .returned (.bool true) ∧ sn'.length = sn.length ∧ Bs w' g sn' ∧ Only (fun k => k = g) w w' ∧ sn' = mark sn (i :: (sl.pre ++ sr.pre)) := by
  subst ht
  have hil := (List.getElem?_eq_some_iff.1 hn).1
  have hl1 := hsm.1
  have hc1 := hN.1
  have hc2 := hN.2.1
  have hpl := hsm.at hn
  unfold maxLen at hc2
  obtain ⟨b, o, pa, pc, rfl, hna0⟩ := hN.2.2 i n hn
  have hna := hna0.keep hbw
  have hbl := World.block_lt_of_cell? w0 _ hna0.c0
  dsimp only at hbl
  have hgb : g ≠ b := by omega
  obtain ⟨r, k, l, b', p, s⟩ := n
  dsimp only at hr hpl
  subst hr
  have o2 : Below w.heap.size w ((w.alloc (.cells #[.slice (some ⟨b, o, none⟩) N.length cap, .slice (some ⟨g, 0, none⟩) N.length sc] 76)).alloc (.cells #[.int .i64 x, .int .i64 y, .bool hl, .bool hh] 79)) := bel1 (al1 _) _
  have c0 := kc o2 (hB.at_ i _ hs)
  have B2 := hB.keep o2
  have f0 := B2.fr i
  have B3 := B2.set i (by omega) true
  have bw3 : Below w0.heap.size w0 (((w.alloc (.cells #[.slice (some ⟨b, o, none⟩) N.length cap, .slice (some ⟨g, 0, none⟩) N.length sc] 76)).alloc (.cells #[.int .i64 x, .int .i64 y, .bool hl, .bool hh] 79)).setCell ⟨g, i, none⟩ (.bool true)) := (hbw.trans (o2.mono hbw.size)).setCell hg0 _
  have O3 : Only (fun j => j = g) w (((w.alloc (.cells #[.slice (some ⟨b, o, none⟩) N.length cap, .slice (some ⟨g, 0, none⟩) N.length sc] 76)).alloc (.cells #[.int .i64 x, .int .i64 y, .bool hl, .bool hh] 79)).setCell ⟨g, i, none⟩ (.bool true)) := (Only.ofBelow o2).setCell (S := fun j => j = g) (p := ⟨g, i, none⟩) (.inl rfl) _
  have cm := fun W => mayroute_any ⟨true, k, l, b', p, s⟩ pa pc x y hl hh W (by dsimp only; omega) true (by simp [hk])
  have cs := fun W => left_any x y k hl hh W
  have cl := fun W (hB : Bs W g (sn.set i true)) (hb : Below w0.heap.size w0 W) => IH (sn.set i true) l x k hl true W (cntn (l := []) hs hf).1 (by rw [List.length_set]; exact hsl) hB hb true (⟨fun _ => ⟨sl, hL⟩, fun _ => rfl⟩)
  have cr := fun W => right_any x y k hl hh W
  have cq := fun W (hB : Bs W g (mark (sn.set i true) sl.pre)) (hb : Below w0.heap.size w0 W) => IH (mark (sn.set i true) sl.pre) b' k y true hh W (cntn hs hf).2 (by rw [mark_len, List.length_set]; exact hsl) hB hb true (⟨fun _ => ⟨sr, hR⟩, fun _ => rfl⟩)
  have HL := Lib.hid hL
  have HR := Lib.hid hR
  clear hk hL hR IH hf
  unfold ndv at cm
  unfold spv at *
  dsimp only at cm
  have E := Lib.hid (hna0.keep bw3)
  have C := Lib.hid (c6_make (a := some ⟨b, o, none⟩) (nl := N.length) (cap := cap) (sc := sc) (x := x) (y := y) (hl := hl) (hh := hh) (w := w) (i := i) hB.lt)
  have h0 : (0 : Int) ≤ (i : Int) := by omega
  have h1 : (i : Int) < (N.length : Int) := by omega
  have HX := Lib.hid (And.intro B3 (And.intro O3 bw3))
  have HG := Lib.hid hB.lt
  clear hs B2 hna0 hna hN hsm hn hB hbw B3 o2 O3 bw3
  go_enter Try.func36, Try.ntmps36
  go_upto_region 4 with (fail)
  generalize (World.setCell _ _ _ : World) = W3 at *
  obtain ⟨e0, e1, e2, e3, e4, e5, dp⟩ := E.out
  have F4 := Lib.hid ((show Fz w w0 (W3.alloc (.cells #[.bool true, .int .i64 k, .int .i64 l, .int .i64 b', .slice pa p.length pc, .int .i64 s] 49)) (sn.set i true) w.heap.size (w.heap.size + 1) W3.heap.size (some ⟨b, o, none⟩) N.length cap g sc x y hl hh true k l b' pa p.length pc s from
    ⟨C.out.node, HX.out.1.keep (al1 _), HX.out.2.1.alloc _, HX.out.2.2.alloc HX.out.2.2.size _⟩).drew)
  have hgW : g < w.heap.size := HG.out
  have n0 : ¬ w.heap.size = g := by omega
  have n1 : ¬ w.heap.size + 1 = g := by omega
  have n2 : ¬ W3.heap.size = g := by have := HX.out.2.1.size; omega
  have K4 := Lib.hid F4.out.c
  dsimp only at e0 e1 e2 e3 e4 e5 dp
  obtain ⟨m0, m1, m2, m3, m4, m5⟩ := C.out
  clear C dp
  go_wp2_with (fail)
  clear e0 e1 e2 e3 e4 e5 m0 m1 m2 m3 m4 m5 E h0 h1
  refine wp_region_held_drew (S := (fun W => W.cell? ⟨w.heap.size, 0, none⟩ = some (.slice (some ⟨b, o, none⟩) N.length cap) ∧ W.cell? ⟨w.heap.size, 1, none⟩ = some (.slice (some ⟨g, 0, none⟩) N.length sc) ∧
    W.cell? ⟨w.heap.size + 1, 0, none⟩ = some (.int .i64 x) ∧ W.cell? ⟨w.heap.size + 1, 1, none⟩ = some (.int .i64 y) ∧ W.cell? ⟨w.heap.size + 1, 2, none⟩ = some (.bool hl) ∧ W.cell? ⟨w.heap.size + 1, 3, none⟩ = some (.bool hh) ∧
    W.cell? ⟨W3.heap.size, 0, none⟩ = some (.bool true) ∧ W.cell? ⟨W3.heap.size, 1, none⟩ = some (.int .i64 k) ∧ W.cell? ⟨W3.heap.size, 2, none⟩ = some (.int .i64 l) ∧ W.cell? ⟨W3.heap.size, 3, none⟩ = some (.int .i64 b') ∧
    W.cell? ⟨W3.heap.size, 4, none⟩ = some (.slice pa p.length pc) ∧ W.cell? ⟨W3.heap.size, 5, none⟩ = some (.int .i64 s))) (by kernel_rfl) (K4.out) (fun hHeld => ?_)
  refine tk 0 ?_ rfl (by kernel_rfl) (fun _ _ _ h => h) ⟨by rfl, ?_⟩ hHeld ?_; rotate_left
  · intro wS hSw; (try dsimp only at hSw); (try go_split_ands); go_simp; try with_reducible rfl
  refine tk 1 ?_ rfl (by kernel_rfl) (fun _ _ _ h => h) ⟨by rfl, ?_⟩ hHeld ?_; rotate_left
  · intro wS hSw; (try dsimp only at hSw); (try go_split_ands); go_simp; try with_reducible rfl
  try simp only [List.getElem_toArray, List.getElem_cons_succ, List.getElem_cons_zero, Act.put, List.setIfInBounds_toArray, List.set_cons_zero, List.set_cons_succ]
  refine wpAnyH_ready (rs := [2]) (by kernel_rfl) (by simp) ?_
  refine AllReadyH.cons rfl (fun K hK => ?_) AllReadyH.nil
  go_simp
  go_at_call 68; ((with_reducible refine (cm _).mono ?_); rintro e w5 ⟨rfl, hb5⟩); have F5 := Lib.hid (F4.out.keep hb5)
  refine hK.out _ _ ?_ (fun hNext => ?_)
  · exact F5.out.c
  clear hK K hHeld
  have hHeld := hNext
  clear hNext
  try simp only [List.getElem_toArray, List.getElem_cons_succ, List.getElem_cons_zero, Act.put, List.setIfInBounds_toArray, List.set_cons_zero, List.set_cons_succ]
  refine tk 3 ?_ rfl (by kernel_rfl) (fun _ _ _ h => h) ⟨by rfl, ?_⟩ hHeld ?_; rotate_left
  · intro wS hSw; (try dsimp only at hSw); (try go_split_ands); go_simp; try with_reducible rfl
  refine tk 4 ?_ rfl (by kernel_rfl) (fun _ _ _ h => h) ⟨by rfl, ?_⟩ hHeld ?_; rotate_left
  · intro wS hSw; (try dsimp only at hSw); (try go_split_ands); go_simp; try with_reducible rfl
  refine tk 5 ?_ rfl (by kernel_rfl) (fun _ _ _ h => h) ⟨by rfl, ?_⟩ hHeld ?_; rotate_left
  · intro wS hSw; (try dsimp only at hSw); (try go_split_ands); go_simp; try with_reducible rfl
  refine tk 6 ?_ rfl (by kernel_rfl) (fun _ _ _ h => h) ⟨by rfl, ?_⟩ hHeld ?_; rotate_left
  · intro wS hSw; (try dsimp only at hSw); (try go_split_ands); go_simp; try with_reducible rfl
  refine tk 7 ?_ rfl (by kernel_rfl) (fun _ _ _ h => h) ⟨by rfl, ?_⟩ hHeld ?_; rotate_left
  · intro wS hSw; (try dsimp only at hSw); (try go_split_ands); go_simp; try with_reducible rfl
  refine tk 8 ?_ rfl (by kernel_rfl) (fun _ _ _ h => h) ⟨by rfl, ?_⟩ hHeld ?_; rotate_left
  · intro wS hSw; (try dsimp only at hSw); (try go_split_ands); go_simp; try with_reducible rfl
  refine tk 9 ?_ rfl (by kernel_rfl) (fun _ _ _ h => h) ⟨by rfl, ?_⟩ hHeld ?_; rotate_left
  · intro wS hSw; (try dsimp only at hSw); (try go_split_ands); go_simp; try with_reducible rfl
  try simp only [List.getElem_toArray, List.getElem_cons_succ, List.getElem_cons_zero, Act.put, List.setIfInBounds_toArray, List.set_cons_zero, List.set_cons_succ]
  refine wpAnyH_ready (rs := [10]) (by kernel_rfl) (by simp) ?_
  refine AllReadyH.cons rfl (fun K hK => ?_) AllReadyH.nil
  go_simp
  go_at_call 69; ((with_reducible refine (cs _).mono ?_); rintro e w6 ⟨rfl, hb6⟩); have F6 := Lib.hid (F5.out.keep hb6)
  refine hK.out _ _ ?_ (fun hNext => ?_)
  · exact F6.out.c
  clear hK K hHeld
  have hHeld := hNext
  clear hNext
  try simp only [List.getElem_toArray, List.getElem_cons_succ, List.getElem_cons_zero, Act.put, List.setIfInBounds_toArray, List.set_cons_zero, List.set_cons_succ]
  refine wpAnyH_ready (rs := [11]) (by kernel_rfl) (by simp) ?_
  refine AllReadyH.cons rfl (fun K hK => ?_) AllReadyH.nil
  go_simp
  go_at_call 36; ((with_reducible refine (cl _ F6.out.b F6.out.z).mono ?_); rintro e w7 ⟨rfl, sn7, hl7, hB7, hO7, hM7⟩); obtain rfl := hM7 sl HL.out; have F7 := Lib.hid (F6.out.only hO7 hB7 hg0 n0 n1 n2)
  refine hK.out _ _ ?_ (fun hNext => ?_)
  · exact F7.out.c
  clear hK K hHeld
  have hHeld := hNext
  clear hNext
  try simp only [List.getElem_toArray, List.getElem_cons_succ, List.getElem_cons_zero, Act.put, List.setIfInBounds_toArray, List.set_cons_zero, List.set_cons_succ]
  refine tk 12 ?_ rfl (by kernel_rfl) (fun _ _ _ h => h) ⟨by rfl, ?_⟩ hHeld ?_; rotate_left
  · intro wS hSw; (try dsimp only at hSw); (try go_split_ands); go_simp; try with_reducible rfl
  refine tk 13 ?_ rfl (by kernel_rfl) (fun _ _ _ h => h) ⟨by rfl, ?_⟩ hHeld ?_; rotate_left
  · intro wS hSw; (try dsimp only at hSw); (try go_split_ands); go_simp; try with_reducible rfl
  refine tk 14 ?_ rfl (by kernel_rfl) (fun _ _ _ h => h) ⟨by rfl, ?_⟩ hHeld ?_; rotate_left
  · intro wS hSw; (try dsimp only at hSw); (try go_split_ands); go_simp; try with_reducible rfl
  refine tk 15 ?_ rfl (by kernel_rfl) (fun _ _ _ h => h) ⟨by rfl, ?_⟩ hHeld ?_; rotate_left
  · intro wS hSw; (try dsimp only at hSw); (try go_split_ands); go_simp; try with_reducible rfl
  refine tk 16 ?_ rfl (by kernel_rfl) (fun _ _ _ h => h) ⟨by rfl, ?_⟩ hHeld ?_; rotate_left
  · intro wS hSw; (try dsimp only at hSw); (try go_split_ands); go_simp; try with_reducible rfl
  refine tk 17 ?_ rfl (by kernel_rfl) (fun _ _ _ h => h) ⟨by rfl, ?_⟩ hHeld ?_; rotate_left
  · intro wS hSw; (try dsimp only at hSw); (try go_split_ands); go_simp; try with_reducible rfl
  refine tk 18 ?_ rfl (by kernel_rfl) (fun _ _ _ h => h) ⟨by rfl, ?_⟩ hHeld ?_; rotate_left
  · intro wS hSw; (try dsimp only at hSw); (try go_split_ands); go_simp; try with_reducible rfl
  refine tk 19 ?_ rfl (by kernel_rfl) (fun _ _ _ h => h) ⟨by rfl, ?_⟩ hHeld ?_; rotate_left
  · intro wS hSw; (try dsimp only at hSw); (try go_split_ands); go_simp; try with_reducible rfl
  try simp only [List.getElem_toArray, List.getElem_cons_succ, List.getElem_cons_zero, Act.put, List.setIfInBounds_toArray, List.set_cons_zero, List.set_cons_succ]
  refine wpAnyH_ready (rs := [20]) (by kernel_rfl) (by simp) ?_
  refine AllReadyH.cons rfl (fun K hK => ?_) AllReadyH.nil
  go_simp
  go_at_call 70; ((with_reducible refine (cr _).mono ?_); rintro e w8 ⟨rfl, hb8⟩); have F8 := Lib.hid (F7.out.keep hb8)
  refine hK.out _ _ ?_ (fun hNext => ?_)
  · exact F8.out.c
  clear hK K hHeld
  have hHeld := hNext
  clear hNext
  try simp only [List.getElem_toArray, List.getElem_cons_succ, List.getElem_cons_zero, Act.put, List.setIfInBounds_toArray, List.set_cons_zero, List.set_cons_succ]
  refine wpAnyH_ready (rs := [21]) (by kernel_rfl) (by simp) ?_
  refine AllReadyH.cons rfl (fun K hK => ?_) AllReadyH.nil
  go_simp
  go_at_call 36; ((with_reducible refine (cq _ F8.out.b F8.out.z).mono ?_); rintro e w9 ⟨rfl, sn9, hl9, hB9, hO9, hM9⟩); have F9 := Lib.hid (F8.out.only hO9 hB9 hg0 n0 n1 n2)
  refine hK.out _ _ ?_ (fun hNext => ?_)
  · exact F9.out.c
  clear hK K hHeld
  have hHeld := hNext
  clear hNext
  try simp only [List.getElem_toArray, List.getElem_cons_succ, List.getElem_cons_zero, Act.put, List.setIfInBounds_toArray, List.set_cons_zero, List.set_cons_succ]
  refine tk 22 ?_ rfl (by kernel_rfl) (fun _ _ _ h => h) ⟨by rfl, ?_⟩ hHeld ?_; rotate_left
  · intro wS hSw; (try dsimp only at hSw); (try go_split_ands); go_simp; try with_reducible rfl
  refine tk 23 ?_ rfl (by kernel_rfl) (fun _ _ _ h => h) ⟨by rfl, ?_⟩ hHeld ?_; rotate_left
  · intro wS hSw; (try dsimp only at hSw); (try go_split_ands); go_simp; try with_reducible rfl
  try simp only [List.getElem_toArray, List.getElem_cons_succ, List.getElem_cons_zero, Act.put, List.setIfInBounds_toArray, List.set_cons_zero, List.set_cons_succ]
  refine wpAnyH_done (by kernel_rfl) ?_ _
  go_wp2_with (fail)
  go_ret
  exact ⟨sn9, rfl, by rw [hl9, mark_len, List.length_set], F9.out.b, F9.out.o, by rw [hM9 sr HR.out, mark_cons, mark_app]⟩
end
end Go.Proofs.Ytijepfabkalcoaa

