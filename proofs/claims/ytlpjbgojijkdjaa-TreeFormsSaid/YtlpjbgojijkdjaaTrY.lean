/- osierlaw14.awake. No condition: lemmas. -/
import Derived.Test.YtlpjbgojijkdjaaTrV
import Derived.Test.YtlpjbgojijkdjaaTrQ
namespace Go.Proofs.Ytlpjbgojijkdjaa
open Go.RowKit
set_option linter.all false

def aN : List Nd := [⟨false, 0, 0, 0, [(1, 0)], 0⟩, ⟨false, 0, 0, 0, [(5, 0)], 0⟩, ⟨true, 3, 0, 1, [], 0⟩]
def aS : Sh := .rt 2 (.lf 0) (.lf 1)
theorem a_tr : Tr aN aS 2 := by
  refine ⟨by decide, ⟨rfl, _, rfl, rfl, ⟨rfl, rfl, inS_any _, by simp⟩, ⟨rfl, _, rfl, rfl, rfl, rfl, rfl, by simp, by simp, by decide, ?_⟩, ⟨rfl, _, rfl, rfl, rfl, rfl, rfl, by simp, by simp, by decide, ?_⟩⟩, by decide, by decide⟩
  · intro q hq
    simp at hq
    subst hq
    exact ⟨fun x hx => (by cases hx), fun y hy => (by cases hy; decide)⟩
  · intro q hq
    simp at hq
    subst hq
    exact ⟨fun x hx => (by cases hx; decide), fun y hy => (by cases hy)⟩
theorem a_small : Small aN := ⟨by decide, fun n hn => by simp [aN] at hn; rcases hn with rfl | rfl | rfl <;> decide⟩
theorem a_lay : lay aN aS 0 = [⟨true, 3, 1, 2, [], 0⟩, ⟨false, 0, 0, 0, [(1, 0)], 0⟩, ⟨false, 0, 0, 0, [(5, 0)], 0⟩] := rfl
theorem a_dn : dn aN 4 aS = ⟨1, [2], [true]⟩ := by simp [dn, aS, aN, nd, List.getD]
theorem a_lvs : aS.lvs = [0, 1] := rfl
def aC (g : Nat) : Array Value := #[.bool false, .int .i64 0, .int .i64 0, .int .i64 0, .slice (some ⟨g, 0, none⟩) 1 1, .int .i64 0, .bool false, .int .i64 0, .int .i64 0, .int .i64 0, .slice (some ⟨g + 1, 0, none⟩) 1 1, .int .i64 0, .bool true, .int .i64 3, .int .i64 0, .int .i64 1, .slice none 0 0, .int .i64 0]
theorem lit_prs (W : World) (g : Nat) (k v : Int) (h : Bk W g [.int .i64 k, .int .i64 v]) : Prs W (some ⟨g, 0, none⟩) 1 [(k, v)] :=
  ⟨Nat.le_refl _, by unfold maxLen; omega, fun n q hq => by
    match n, hq with
    | 0, hq => simp at hq; subst hq; exact ⟨g, 0, rfl, h.at_ 0 _ rfl, h.at_ 1 _ rfl⟩, fun e => by cases e⟩
theorem a_ns (w : World) : Ns (((w.alloc (.cells #[.int .i64 1, .int .i64 0] 48)).alloc (.cells #[.int .i64 5, .int .i64 0] 48)).alloc (.cells (aC w.heap.size) 51)) (some ⟨w.heap.size + 1 + 1, 0, none⟩) 3 aN := by
  have h1 := ((Bk.new w #[.int .i64 1, .int .i64 0] 48).past (.cells #[.int .i64 5, .int .i64 0] 48)).past (.cells (aC w.heap.size) 51)
  have h2 := (Bk.new (w.alloc (.cells #[.int .i64 1, .int .i64 0] 48)) #[.int .i64 5, .int .i64 0] 48).past (.cells (aC w.heap.size) 51)
  have h3 := Bk.new ((w.alloc (.cells #[.int .i64 1, .int .i64 0] 48)).alloc (.cells #[.int .i64 5, .int .i64 0] 48)) (aC w.heap.size) 51
  simp only [World.size_alloc] at h2 h3
  refine ⟨by decide, by unfold maxLen; omega, fun i n hn => ?_⟩
  match i, hn with
  | 0, hn =>
    simp [aN] at hn; subst hn
    exact ⟨_, 0, _, 1, rfl, h3.at_ 0 _ rfl, h3.at_ 1 _ rfl, h3.at_ 2 _ rfl, h3.at_ 3 _ rfl, h3.at_ 4 _ rfl, h3.at_ 5 _ rfl, lit_prs _ _ _ _ h1⟩
  | 1, hn =>
    simp [aN] at hn; subst hn
    exact ⟨_, 0, _, 1, rfl, h3.at_ 6 _ rfl, h3.at_ 7 _ rfl, h3.at_ 8 _ rfl, h3.at_ 9 _ rfl, h3.at_ 10 _ rfl, h3.at_ 11 _ rfl, lit_prs _ _ _ _ h2⟩
  | 2, hn =>
    simp [aN] at hn; subst hn
    exact ⟨_, 0, none, 0, rfl, h3.at_ 12 _ rfl, h3.at_ 13 _ rfl, h3.at_ 14 _ rfl, h3.at_ 15 _ rfl, h3.at_ 16 _ rfl, h3.at_ 17 _ rfl, Prs.nil _⟩
  | n + 3, hn => simp [aN] at hn
/-- What holds all along. -/
structure Aw (w : World) (gn qt q2 q3 : Nat) (au : Option Addr) (cu : Nat) (ad : Option Addr) (cd : Nat) (ap : Option Addr) (cp : Nat) (W : World) : Prop where
  t : Bk W qt [.int .i64 2, .slice (some ⟨gn, 0, none⟩) 3 3]
  p : Bk W q2 [.int .i64 1, .slice au 1 cu, .slice ad 1 cd]
  q : Bk W q3 [.int .i64 0, .slice ap 3 cp]
  n : Ns W (some ⟨gn, 0, none⟩) 3 aN
  d : RB W ad cd [true]
  l : Ns W ap cp [⟨true, 3, 1, 2, [], 0⟩, ⟨false, 0, 0, 0, [(1, 0)], 0⟩, ⟨false, 0, 0, 0, [(5, 0)], 0⟩]
  b : Below w.heap.size w W
theorem Aw.keep {w : World} {gn qt q2 q3 : Nat} {au : Option Addr} {cu : Nat} {ad : Option Addr} {cd : Nat} {ap : Option Addr} {cp : Nat} {W W' : World} (h : Aw w gn qt q2 q3 au cu ad cd ap cp W) (hb : Below W.heap.size W W') : Aw w gn qt q2 q3 au cu ad cd ap cp W' :=
  ⟨h.t.keep hb, h.p.keep hb, h.q.keep hb, h.n.keep hb, h.d.below hb, h.l.keep hb, bel2 h.b hb⟩
theorem a_kc {W : World} {ap : Option Addr} {cp : Nat} (h : Ns W ap cp [⟨true, 3, 1, 2, [], 0⟩, ⟨false, 0, 0, 0, [(1, 0)], 0⟩, ⟨false, 0, 0, 0, [(5, 0)], 0⟩]) : ∃ b o, ap = some ⟨b, o, none⟩ ∧ 3 ≤ cp ∧ W.cell? ⟨b, o + 2, none⟩ = some (.int .i64 1) := by
  obtain ⟨b, o, pa, pc, e, hna⟩ := h.2.2 0 _ rfl
  have h1 := h.1
  simp at h1
  have h2 := hna.c2
  rw [Nat.zero_mul, Nat.add_zero] at h2
  exact ⟨b, o, e, h1, h2⟩
set_option maxRecDepth 100000 in
set_option maxHeartbeats 6400000 in
theorem awake_any (w : World) : Calls Try.prog 10 #[] w fun e w' => e = .returned (.bool true) ∧ Below w.heap.size w w' := by
  have N0 := a_ns w
  have b3 : Below w.heap.size w (((w.alloc (.cells #[.int .i64 1, .int .i64 0] 48)).alloc (.cells #[.int .i64 5, .int .i64 0] 48)).alloc (.cells (aC w.heap.size) 51)) := bel1 (bel1 (al1 _) _) _
  have T0 := Lib.hid (Bk.new (((w.alloc (.cells #[.int .i64 1, .int .i64 0] 48)).alloc (.cells #[.int .i64 5, .int .i64 0] 48)).alloc (.cells (aC w.heap.size) 51)) #[.int .i64 2, .slice (some ⟨w.heap.size + 1 + 1, 0, none⟩) 3 3] 24)
  have N1 := Lib.hid (N0.keep (al1 (.cells #[.int .i64 2, .slice (some ⟨w.heap.size + 1 + 1, 0, none⟩) 3 3] 24)))
  have HB := Lib.hid (bel1 b3 (.cells #[.int .i64 2, .slice (some ⟨w.heap.size + 1 + 1, 0, none⟩) 3 3] 24))
  have cf := fun W (hN : Ns W (some ⟨w.heap.size + 1 + 1, 0, none⟩) 3 aN) => tfind_yes 2 4 (some ⟨w.heap.size + 1 + 1, 0, none⟩) 3 aN W hN a_small aS a_tr
  have cp := fun W (hN : Ns W (some ⟨w.heap.size + 1 + 1, 0, none⟩) 3 aN) => tplain_yes 2 (some ⟨w.heap.size + 1 + 1, 0, none⟩) 3 aN W hN a_small aS a_tr
  have cm := fun W (hN : Ns W (some ⟨w.heap.size + 1 + 1, 0, none⟩) 3 aN) => tmay_any 2 (some ⟨w.heap.size + 1 + 1, 0, none⟩) 3 aN W hN a_small true ⟨fun _ => ⟨aS, a_tr⟩, fun _ => rfl⟩
  have cv := fun W (hN : Ns W (some ⟨w.heap.size + 1 + 1, 0, none⟩) 3 aN) => tleaves_yes 2 (some ⟨w.heap.size + 1 + 1, 0, none⟩) 3 aN W hN a_small aS a_tr
  unfold FdIs at cf
  unfold PlIs at cp
  unfold LvIs at cv
  rw [a_dn] at cf
  rw [a_lay] at cp
  rw [a_lvs] at cv
  unfold trv at cf cp cm cv
  have e3 : aN.length = 3 := rfl
  rw [e3] at cf cp cm cv
  simp only [List.length_cons, List.length_nil] at cf cp cv
  have cr := fun (au ad : Option Addr) (cu cd : Nat) W (hR : RB W ad cd [true]) => right_any' 1 au ad 1 cu cd [true] W (by omega) rfl hR true rfl
  have ct := fun (au ad : Option Addr) (cu cd : Nat) W => top_any 1 au ad 1 1 cu cd W (by omega) false (by simp)
  unfold ptv at cr ct
  unfold aC at *
  clear N0 b3 e3
  simp only [World.size_alloc] at T0
  go_enter Try.func10, Try.ntmps10
  go_upto_region 2 with (fail)
  obtain ⟨gn, hgn⟩ : ∃ q, w.heap.size + 1 + 1 = q := ⟨_, rfl⟩
  rw [hgn] at T0 N1 HB cf cp cm cv ⊢
  obtain ⟨qt, hqt⟩ : ∃ q, gn + 1 = q := ⟨_, rfl⟩
  rw [hqt] at T0 ⊢
  clear hgn hqt
  generalize (World.alloc (World.alloc (World.alloc (World.alloc w _) _) _) _ : World) = W4 at *
  have t0 := T0.out.at_ 0 _ rfl
  have t1 := T0.out.at_ 1 _ rfl
  go_upto_region 3 with (go_at_call 27; ((with_reducible refine (cf _ N1.out).mono ?_); clear cf; rintro e W1 ⟨au, cu, ad, cd, rfl, hu, hd, hb1⟩; have HD := Lib.hid (And.intro hd hb1); clear hu hd hb1))
  have P1 := Lib.hid (Bk.new W1 #[.int .i64 1, .slice au 1 cu, .slice ad 1 cd] 41)
  have T1 := Lib.hid ((T0.out.keep HD.out.2).past (.cells #[.int .i64 1, .slice au 1 cu, .slice ad 1 cd] 41))
  have N2 := Lib.hid ((N1.out.keep HD.out.2).keep (al1 (.cells #[.int .i64 1, .slice au 1 cu, .slice ad 1 cd] 41)))
  have D1 := Lib.hid (HD.out.1.below (al1 (.cells #[.int .i64 1, .slice au 1 cu, .slice ad 1 cd] 41)))
  have HB1 := Lib.hid (bel1 (bel2 HB.out HD.out.2) (.cells #[.int .i64 1, .slice au 1 cu, .slice ad 1 cd] 41))
  clear t0 t1 T0 N1 HB HD
  obtain ⟨q2, hq2⟩ : ∃ q, W1.heap.size = q := ⟨_, rfl⟩
  rw [hq2] at P1 ⊢
  clear hq2
  generalize (World.alloc W1 _ : World) = W5 at *
  have t0 := T1.out.at_ 0 _ rfl
  have t1 := T1.out.at_ 1 _ rfl
  go_upto_region 4 with (go_at_call 11; ((with_reducible refine (cp _ N2.out).mono ?_); clear cp; rintro e W2 ⟨ap, cp2, rfl, hN2, hb2⟩; have HD := Lib.hid (And.intro hN2 hb2); clear hN2 hb2))
  have A0 := Lib.hid (show Aw w gn qt q2 W2.heap.size au cu ad cd ap cp2 (W2.alloc (.cells #[.int .i64 0, .slice ap 3 cp2] 24)) from
    ⟨(T1.out.keep HD.out.2).past _, (P1.out.keep HD.out.2).past _, Bk.new W2 #[.int .i64 0, .slice ap 3 cp2] 24, (N2.out.keep HD.out.2).keep (al1 _), (D1.out.below HD.out.2).below (al1 _), HD.out.1.keep (al1 _), bel1 (bel2 HB1.out HD.out.2) _⟩)
  clear t0 t1 T1 N2 D1 HB1 P1 HD
  obtain ⟨q3, hq3⟩ : ∃ q, W2.heap.size = q := ⟨_, rfl⟩
  rw [hq3] at A0 ⊢
  clear hq3
  generalize (World.alloc W2 _ : World) = W6 at *
  have t0 := A0.out.t.at_ 0 _ rfl
  have t1 := A0.out.t.at_ 1 _ rfl
  obtain ⟨b, o, hap, hcp, -⟩ := a_kc A0.out.l
  subst hap
  go_wp2_with (first
    | (go_at_call 16; ((with_reducible refine (cm _ A0.out.n).mono ?_); clear cm t0 t1; rintro e W7 ⟨rfl, hb7⟩; have A7 := Lib.hid (A0.out.keep hb7); clear hb7 A0; have p0 := A7.out.p.at_ 0 _ rfl; have p1 := A7.out.p.at_ 1 _ rfl; have p2 := A7.out.p.at_ 2 _ rfl))
    | (go_at_call 30; ((with_reducible refine (cr _ _ _ _ _ A7.out.d).mono ?_); clear cr p0 p1 p2; rintro e W8 ⟨rfl, hb8⟩; have A8 := Lib.hid (A7.out.keep hb8); clear hb8 A7; have p0 := A8.out.p.at_ 0 _ rfl; have p1 := A8.out.p.at_ 1 _ rfl; have p2 := A8.out.p.at_ 2 _ rfl))
    | (go_at_call 29; ((with_reducible refine (ct _ _ _ _ _).mono ?_); clear ct p0 p1 p2; rintro e W9 ⟨rfl, hb9⟩; have A9 := Lib.hid (A8.out.keep hb9); clear hb9 A8; have q0 := A9.out.q.at_ 0 _ rfl; have q1 := A9.out.q.at_ 1 _ rfl; have t0 := A9.out.t.at_ 0 _ rfl; have t1 := A9.out.t.at_ 1 _ rfl; obtain ⟨b2, o2, hap2, -, hc2⟩ := a_kc A9.out.l; cases hap2))
    | (go_at_call 20; ((with_reducible refine (cv _ A9.out.n).mono ?_); clear cv; rintro e W10 ⟨av, cvv, rfl, -, hb10⟩; have HB10 := Lib.hid (bel2 A9.out.b hb10); clear hb10))
    | fail)
  go_ret
  exact ⟨rfl, HB10.out⟩
#print axioms awake_any
end Go.Proofs.Ytlpjbgojijkdjaa
