/- osierref1.isLeaf exactly. No condition: lemmas. osierref1.Set exactly. No condition: lemmas. osierref1.Path exactly. No condition: lemmas. osierlaw14.ints exactly. No condition: lemmas. -/
import Derived.Test.YteebceecohhegaaTsF
import Derived.Test.YteebceecohhegaaTsI
import Derived.OwnWalk
import Derived.Test.YteebceecohhegaaTrO
import Derived.Test.YteebceecohhegaaTrU
import Derived.Test.YteebceecohhegaaTrF
namespace Go.Proofs.Yteebceecohhegaa
open Go.RowKit
set_option linter.all false

set_option maxRecDepth 100000 in
set_option maxHeartbeats 6400000 in
theorem isleaf_any (t : Int) (a : Option Addr) (cap : Nat) (N : List Nd) (w : World) (hN : Ns w a cap N) (hsm : Small N) (y : Int) (B : Bool)
    (hB : B = true ↔ (∃ s, Tr N s t) ∧ ∃ (j : Nat) (n : Nd), y = j ∧ N[j]? = some n ∧ n.r = false) :
    Calls Try.prog 32 #[trv t a cap N, .int .i64 y] w fun e w' => e = .returned (.bool B) ∧ Below w.heap.size w w' := by
  obtain ⟨x, P, hP⟩ := plO_ex N t
  have hl1 := hsm.1
  have hc1 := hN.1
  have hc2 := hN.2.1
  unfold maxLen at hc2
  have b1 : Below w.heap.size w (w.alloc (.cells #[.int .i64 t, .slice a N.length cap] 24)) := al1 _
  have cp := rp_any hsm hP _ (hN.keep b1)
  unfold PlB at cp
  have B1 := Lib.hid (Bk.new w #[.int .i64 t, .slice a N.length cap] 24)
  have HB := Lib.hid b1
  have HN := Lib.hid hN
  have hx := hP.tr
  have ARM : True := trivial
  unfold trv at cp ⊢
  clear b1 hN hP ARM
  cases x
  · obtain rfl : B = false := by
      cases B
      · rfl
      · have := hx.2 (hB.1 rfl).1; cases this
    clear hx hB hc1 hc2 hl1
    go_enter Try.func32, Try.ntmps32
    go_wp2_with (go_at_call 34; ((with_reducible refine cp.mono ?_); clear cp; rintro e w3 ⟨ao, cpp, rfl, -, hb3⟩; have HR := Lib.hid (bel1 (bel2 HB.out hb3) (.cells #[.int .i64 0, .slice ao P.length cpp] 24)); clear hb3))
    go_ret
    exact ⟨rfl, HR.out⟩
  · have ht := hx.1 rfl
    by_cases h0 : 0 ≤ y
    case neg =>
      obtain rfl : B = false := by
        cases B
        · rfl
        · obtain ⟨-, j, n, e, -⟩ := hB.1 rfl; omega
      have h0' : decide (0 ≤ y) = false := decide_eq_false h0
      clear hx hB hc1 hc2 hl1 ht h0
      go_enter Try.func32, Try.ntmps32
      go_wp2_with (go_at_call 34; ((with_reducible refine cp.mono ?_); clear cp; rintro e w3 ⟨ao, cpp, rfl, -, hb3⟩; have HR := Lib.hid (bel1 (bel2 HB.out hb3) (.cells #[.int .i64 0, .slice ao P.length cpp] 24)); clear hb3))
      go_ret
      exact ⟨rfl, HR.out⟩
    case pos =>
      have h0' : decide (0 ≤ y) = true := decide_eq_true h0
      by_cases h1 : y < (N.length : Int)
      case neg =>
        obtain rfl : B = false := by
          cases B
          · rfl
          · obtain ⟨-, j, n, e, hn, -⟩ := hB.1 rfl
            have := (List.getElem?_eq_some_iff.1 hn).1
            omega
        have h1' : decide (y < (N.length : Int)) = false := decide_eq_false h1
        clear hx hB hc1 hc2 hl1 ht h0 h1
        go_enter Try.func32, Try.ntmps32
        go_wp2_with (go_at_call 34; ((with_reducible refine cp.mono ?_); clear cp; rintro e w3 ⟨ao, cpp, rfl, -, hb3⟩; have HR := Lib.hid (bel1 (bel2 HB.out hb3) (.cells #[.int .i64 0, .slice ao P.length cpp] 24)); have g1 := ((B1.out.keep hb3).past (.cells #[.int .i64 0, .slice ao P.length cpp] 24)).at_ 1 _ rfl; clear hb3))
        go_ret
        exact ⟨rfl, HR.out⟩
      case pos =>
        obtain ⟨j, rfl⟩ : ∃ j : Nat, y = j := ⟨y.toNat, by omega⟩
        have hj : j < N.length := by omega
        obtain ⟨n, hn⟩ : ∃ n, N[j]? = some n := ⟨_, List.getElem?_eq_getElem hj⟩
        have hBr : B = !n.r := by
          cases hr : n.r
          · exact hB.2 ⟨ht, j, n, rfl, hn, hr⟩
          · cases B
            · rfl
            · obtain ⟨-, j', n', e, hn', hr'⟩ := hB.1 rfl
              obtain rfl : j = j' := by omega
              rw [hn] at hn'; cases hn'
              rw [hr] at hr'; cases hr'
        obtain ⟨b, o, qa, qc, rfl, hna⟩ := HN.out.2.2 j n hn
        have HE := Lib.hid hna.c0
        have h1' : decide (j < N.length) = true := decide_eq_true hj
        have hj0 : (0 : Int) ≤ (j : Int) := by omega
        have hj1 : (j : Int) < (N.length : Int) := by omega
        have HBR := Lib.hid hBr
        generalize n.r = r at *
        clear hx hB hl1 ht hna hn hBr
        go_enter Try.func32, Try.ntmps32
        go_wp2_with (go_at_call 34; ((with_reducible refine cp.mono ?_); clear cp; rintro e w3 ⟨ao, cpp, rfl, -, hb3⟩; have HR := Lib.hid (bel1 (bel2 HB.out hb3) (.cells #[.int .i64 0, .slice ao P.length cpp] 24)); have g1 := ((B1.out.keep hb3).past (.cells #[.int .i64 0, .slice ao P.length cpp] 24)).at_ 1 _ rfl; have x2 := kc HR.out HE.out; clear hb3))
        go_ret
        rw [HBR.out]
        exact ⟨rfl, HR.out⟩
#print axioms isleaf_any
end Go.Proofs.Yteebceecohhegaa

namespace Go.Proofs.Yteebceecohhegaa
open Go.RowKit
set_option linter.all false

end Go.Proofs.Yteebceecohhegaa

namespace Go.Proofs.Yteebceecohhegaa
open Go.RowKit
set_option linter.all false

/-- The way so far. -/
structure Pt (W1 wr : World) (vu vd : Value) (U : List Int) (D : List Bool) : Prop where
  u : Nums wr (fun k => k < W1.heap.size) vu U
  d : Bools wr (fun k => k < W1.heap.size) vd D
  ne : ∀ k, vu.ownBlock = some k → vd.ownBlock ≠ some k
  o : Below W1.heap.size W1 wr
/-- What Path tells. -/
def PhIs (w : World) (d : Dn) (e : Ending) (w' : World) : Prop :=
  ∃ au cu ad cd, e = .returned (.tuple #[.int .i64 d.i, .slice au d.u.length cu, .slice ad d.u.length cd]) ∧ RI w' au cu (preI d.u) ∧ RB w' ad cd d.d ∧ Below w.heap.size w w'
/-- The way so far, beside a node's box. -/
structure PX (W1 : World) (q7 : Nat) (cs : List Value) (W : World) (vu vd : Value) (U : List Int) (D : List Bool) : Prop where
  p : Pt W1 W vu vd U D
  x : Bk W q7 cs
  xu : vu.ownBlock ≠ some q7
  xd : vd.ownBlock ≠ some q7
section
variable {W1 W W2 : World} {q7 : Nat} {cs : List Value} {vu vd vu' vd' : Value} {U U' : List Int} {D D' : List Bool}
theorem Pt.keep (h : Pt W1 W vu vd U D) (hb : Below W.heap.size W W2) : Pt W1 W2 vu vd U D := ⟨h.u.below hb, h.d.below hb, h.ne, bel2 h.o hb⟩
theorem PX.keep (h : PX W1 q7 cs W vu vd U D) (hb : Below W.heap.size W W2) : PX W1 q7 cs W2 vu vd U D := ⟨h.p.keep hb, h.x.keep hb, h.xu, h.xd⟩
theorem own_tk {v v' : Value} (h : ∀ k, v'.ownBlock = some k → ¬ Tk W v k) (k : Nat) (hk : v'.ownBlock = some k) : v.ownBlock = some k ∨ W.heap.size ≤ k := by
  have := h k hk
  unfold Tk at this
  rcases Classical.em (v.ownBlock = some k) with h' | h'
  · exact .inl h'
  · exact .inr (by
      rcases Nat.lt_or_ge k W.heap.size with h2 | h2
      · exact absurd ⟨h2, h'⟩ this
      · exact h2)
theorem PX.pushU (h : PX W1 q7 cs W vu vd U D) (hN : Nums W2 (Tk W vu) vu' U') (hO : Only (fun k => ¬ Tk W vu k) W W2) : PX W1 q7 cs W2 vu' vd U' D := by
  have own := own_tk hN.av
  have hd : ∀ k, vd.ownBlock = some k → Tk W vu k := fun k hk => ⟨(h.p.d.row.lt k hk).2, fun e => h.p.ne k e hk⟩
  have low : ∀ k, ¬ Tk W vu k → W1.heap.size ≤ k := fun k hk => by
    rcases Nat.lt_or_ge k W1.heap.size with h2 | h2
    · exact absurd ⟨Nat.lt_of_lt_of_le h2 h.p.o.size, fun e => h.p.u.av k e h2⟩ hk
    · exact h2
  refine ⟨⟨hN.sub (fun k _ hk => ?_), ⟨hO.row h.p.d.row (fun k hk hh => hh (hd k hk)), h.p.d.av⟩, fun k hk e => ?_, h.p.o.trans (hO.below (B := W1.heap.size) low h.p.o.size)⟩, h.x.only hO (fun hh => hh ⟨h.x.lt, h.xu⟩), fun e => ?_, h.xd⟩
  · exact Classical.byContradiction (fun hh => absurd (low k hh) (by omega))
  · rcases own k hk with e' | e'
    · exact h.p.ne k e' e
    · have := (h.p.d.row.lt k e).2; omega
  · rcases own q7 e with e' | e'
    · exact h.xu e'
    · have := h.x.lt; omega
theorem PX.pushD (h : PX W1 q7 cs W vu vd U D) (hN : Bools W2 (Tk W vd) vd' D') (hO : Only (fun k => ¬ Tk W vd k) W W2) : PX W1 q7 cs W2 vu vd' U D' := by
  have own := own_tk hN.av
  have hu : ∀ k, vu.ownBlock = some k → Tk W vd k := fun k hk => ⟨(h.p.u.row.lt k hk).2, h.p.ne k hk⟩
  have low : ∀ k, ¬ Tk W vd k → W1.heap.size ≤ k := fun k hk => by
    rcases Nat.lt_or_ge k W1.heap.size with h2 | h2
    · exact absurd ⟨Nat.lt_of_lt_of_le h2 h.p.o.size, fun e => h.p.d.av k e h2⟩ hk
    · exact h2
  refine ⟨⟨⟨hO.row h.p.u.row (fun k hk hh => hh (hu k hk)), h.p.u.av⟩, hN.sub (fun k _ hk => ?_), fun k hk e => ?_, h.p.o.trans (hO.below (B := W1.heap.size) low h.p.o.size)⟩, h.x.only hO (fun hh => hh ⟨h.x.lt, h.xd⟩), h.xu, fun e => ?_⟩
  · exact Classical.byContradiction (fun hh => absurd (low k hh) (by omega))
  · rcases own k e with e' | e'
    · exact h.p.ne k hk e'
    · have := (h.p.u.row.lt k hk).2; omega
  · rcases own q7 e with e' | e'
    · exact h.xd e'
    · have := h.x.lt; omega
theorem src_bkI {g : Nat} {x : Int} (h : Bk W g [.int .i64 x]) : Source W (.slice (some ⟨g, 0, none⟩) 1 1) [x].length (cellsI [x]) :=
  .inr ⟨_, _, rfl, fun j u hj => by
    rw [show (⟨g, 0, none⟩ : Addr).add j = ⟨g, j, none⟩ from by unfold Addr.add; split <;> simp_all]
    exact h.at_ j u hj⟩
theorem src_bkB {g : Nat} {x : Bool} (h : Bk W g [.bool x]) : Source W (.slice (some ⟨g, 0, none⟩) 1 1) [x].length (cellsB [x]) :=
  .inr ⟨_, _, rfl, fun j u hj => by
    rw [show (⟨g, 0, none⟩ : Addr).add j = ⟨g, j, none⟩ from by unfold Addr.add; split <;> simp_all]
    exact h.at_ j u hj⟩
end
end Go.Proofs.Yteebceecohhegaa

namespace Go.Proofs.Yteebceecohhegaa
open Go.RowKit
set_option linter.all false

end Go.Proofs.Yteebceecohhegaa
