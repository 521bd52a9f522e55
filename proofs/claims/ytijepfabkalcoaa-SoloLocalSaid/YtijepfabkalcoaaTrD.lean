/- check.from, on: all its ways. No condition: lemmas. -/
import Derived.Test.YtijepfabkalcoaaTrA
namespace Go.Proofs.Ytijepfabkalcoaa
open Go.RowKit
set_option linter.all false

section
variable {a : Option Addr} {cap : Nat} {N : List Nd} {w0 : World} {g sc : Nat}
set_option maxRecDepth 100000 in
set_option maxHeartbeats 6400000 in
theorem from_seen (hl1 : N.length ≤ 2000) {i : Nat} (hi : i < N.length) {sn : List Bool} (hsl : sn.length = N.length) (hs : sn[i]? = some true) {x y : Int} {hl hh : Bool} {w : World} (hB : Bs w g sn) {t : Int} (ht : t = (i : Int)) :
    Calls Try.prog 36 #[.agg #[.slice a N.length cap, .slice (some ⟨g, 0, none⟩) N.length sc], .int .i64 t, spv x y hl hh] w fun e w' => e = .returned (.bool false) ∧ Below w.heap.size w w' := by
  unfold spv
  subst ht
  have b2 : Below w.heap.size w ((w.alloc (.cells #[.slice a N.length cap, .slice (some ⟨g, 0, none⟩) N.length sc] 76)).alloc (.cells #[.int .i64 x, .int .i64 y, .bool hl, .bool hh] 79)) := bel1 (al1 _) _
  have c0 := kc b2 (hB.at_ i _ hs)
  have h0 : (0 : Int) ≤ (i : Int) := by omega
  have h1 : (i : Int) < (N.length : Int) := by omega
  go_enter Try.func36, Try.ntmps36
  go_wp2_with (fail)
  go_ret
  exact ⟨rfl, b2⟩

set_option maxRecDepth 100000 in
set_option maxHeartbeats 6400000 in
theorem from_leaf (hN : Ns w0 a cap N) (hsm : Small N) (hg0 : w0.heap.size ≤ g) {i : Nat} {n : Nd} (hn : N[i]? = some n) (hr : n.r = false) {sn : List Bool} (hsl : sn.length = N.length) (hs : sn[i]? = some false) {x y : Int} {hl hh : Bool} {w : World} (hbw : Below w0.heap.size w0 w) (hB : Bs w g sn) {t : Int} (ht : t = (i : Int)) (B : Bool) (hk : B = true ↔ okL n (oo hl x) (oo hh y)) :
    Calls Try.prog 36 #[.agg #[.slice a N.length cap, .slice (some ⟨g, 0, none⟩) N.length sc], .int .i64 t, spv x y hl hh] w fun e w' => e = .returned (.bool B) ∧ Bs w' g (sn.set i true) ∧ Only (fun k => k = g) w w' := by
  subst ht
  have hil := (List.getElem?_eq_some_iff.1 hn).1
  have hl1 := hsm.1
  have hc1 := hN.1
  have hc2 := hN.2.1
  have hpl := hsm.at hn
  unfold maxLen at hc2
  obtain ⟨b, o, pa, pc, rfl, hna0⟩ := hN.2.2 i n hn
  have hna := hna0.keep hbw
  have hbl := World.block_lt_of_cell? w0 _ hna0.c0
  dsimp only at hbl
  have hgb : g ≠ b := by omega
  obtain ⟨r, k, l, b', p, s⟩ := n
  dsimp only at hr hpl
  subst hr
  have o2 : Below w.heap.size w ((w.alloc (.cells #[.slice (some ⟨b, o, none⟩) N.length cap, .slice (some ⟨g, 0, none⟩) N.length sc] 76)).alloc (.cells #[.int .i64 x, .int .i64 y, .bool hl, .bool hh] 79)) := bel1 (al1 _) _
  have c0 := kc o2 (hB.at_ i _ hs)
  have B2 := hB.keep o2
  have f0 := B2.fr i
  have B3 := B2.set i (by omega) true
  have bw3 : Below w0.heap.size w0 (((w.alloc (.cells #[.slice (some ⟨b, o, none⟩) N.length cap, .slice (some ⟨g, 0, none⟩) N.length sc] 76)).alloc (.cells #[.int .i64 x, .int .i64 y, .bool hl, .bool hh] 79)).setCell ⟨g, i, none⟩ (.bool true)) := (hbw.trans (o2.mono hbw.size)).setCell hg0 _
  have O3 : Only (fun j => j = g) w (((w.alloc (.cells #[.slice (some ⟨b, o, none⟩) N.length cap, .slice (some ⟨g, 0, none⟩) N.length sc] 76)).alloc (.cells #[.int .i64 x, .int .i64 y, .bool hl, .bool hh] 79)).setCell ⟨g, i, none⟩ (.bool true)) := (Only.ofBelow o2).setCell (S := fun j => j = g) (p := ⟨g, i, none⟩) (.inl rfl) _
  have cm := fun W (hW : Prs W pa pc p) => mayleaf_any ⟨false, k, l, b', p, s⟩ pa pc x y hl hh W hW B hk
  unfold ndv at cm
  unfold spv at cm ⊢
  have E := Lib.hid (hna0.keep bw3)
  have C := Lib.hid (c6_make (a := some ⟨b, o, none⟩) (nl := N.length) (cap := cap) (sc := sc) (x := x) (y := y) (hl := hl) (hh := hh) (w := w) (i := i) hB.lt)
  have h0 : (0 : Int) ≤ (i : Int) := by omega
  have h1 : (i : Int) < (N.length : Int) := by omega
  have HX := Lib.hid (And.intro B3 O3)
  clear hk hs B2 hna0 hna hN hsm hn hB hbw B3 o2 O3 bw3
  go_enter Try.func36, Try.ntmps36
  go_upto_region 4 with (fail)
  generalize (World.setCell _ _ _ : World) = W3 at *
  obtain ⟨e0, e1, e2, e3, e4, e5, dp⟩ := E.out
  have C' := Lib.hid (C.out.node (r := false) (k := k) (l := l) (b := b') (pa := pa) (pl := p.length) (pc := pc) (s := s))
  obtain ⟨k0, k1, k2, k3, k4, k5, k6, k7, k8, k9, k10, k11⟩ := C'.out
  obtain ⟨m0, m1, m2, m3, m4, m5⟩ := C.out
  dsimp only at e0 e1 e2 e3 e4 e5 dp cm
  have cm' := cm _ ((dp.below (al1 (.cells #[.bool false, .int .i64 k, .int .i64 l, .int .i64 b', .slice pa p.length pc, .int .i64 s] 49))))
  clear dp cm
  go_wp2_with (go_at_call 67; ((with_reducible refine cm'.mono ?_); clear cm'; rintro e w2 ⟨rfl, hb2⟩))
  go_ret
  exact ⟨rfl, (HX.out.1.keep (al1 _)).keep hb2, (HX.out.2.alloc _).trans (Only.ofBelow hb2) (fun i hi _ => hi)⟩
end
end Go.Proofs.Ytijepfabkalcoaa

