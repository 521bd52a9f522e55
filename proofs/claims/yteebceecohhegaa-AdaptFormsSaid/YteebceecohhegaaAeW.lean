/- osierlaw15.awake. No condition: lemmas. -/
import Derived.Test.YteebceecohhegaaAeF
import Derived.Test.YteebceecohhegaaTrU
import Derived.Test.YteebceecohhegaaTsC
namespace Go.Proofs.Yteebceecohhegaa
open Go.RowKit
set_option linter.all false

def aL : List Pr := [(1, 0), (2, 0), (3, 0)]
def aP : List Nd := [⟨true, 2, 1, 2, [], 0⟩, ⟨false, 0, 0, 0, [(1, 0)], 0⟩, ⟨false, 0, 0, 0, [(2, 0), (3, 0)], 0⟩]
def aS : Sh := .rt 0 (.lf 1) (.lf 2)
theorem aL_srt : Srt aL := by unfold Srt aL; decide
theorem aO_tr : Tr (oneN aL) (.lf 0) 0 := tr_one aL aL_srt
theorem aO_small : Small (oneN aL) := ⟨by decide, fun n hn => by simp [oneN] at hn; subst hn; decide⟩
theorem aP_small : Small aP := ⟨by decide, fun n hn => by simp [aP] at hn; rcases hn with rfl | rfl | rfl <;> decide⟩
theorem a_spl : SplO (oneN aL) 0 0 true aP := .inl ⟨rfl, .lf 0, 0, ⟨aO_tr, rfl, by simp [Sh.lvs]⟩, by decide, by decide, rfl⟩
theorem aP_tr : Tr aP aS 0 := by
  obtain ⟨s, i, s', h, _, e, e2, h3, _⟩ := SplO.is a_spl
  obtain ⟨h1, h2, h4⟩ := h
  obtain rfl := h1.uniq aO_tr
  obtain rfl : i = 0 := by omega
  rw [e2] at h3
  exact h3
theorem a_nxt : NxtO aP 0 1 (some 2) := .inl ⟨aS, 1, 2, ⟨aP_tr, rfl, by simp [aS, Sh.lvs]⟩, rfl, rfl, rfl⟩
theorem a_joi : JoiO aP 0 2 true (oneN aL) := .inl ⟨rfl, aS, 2, .lf aL 0, ⟨aP_tr, rfl, by simp [aS, Sh.lvs]⟩, rfl, rfl, rfl⟩
theorem aP_all : ∀ s, Tr aP s 0 → (allP aP s.lvs).length ≤ 2100 := fun s h => by
  obtain rfl := h.uniq aP_tr
  decide
theorem aO_pl : PlO (oneN aL) 0 true (oneN aL) := .inl ⟨.lf 0, aO_tr, rfl, rfl⟩
theorem a_prs (w : World) : Prs (w.alloc (.cells #[.int .i64 1, .int .i64 0, .int .i64 2, .int .i64 0, .int .i64 3, .int .i64 0] 54)) (some ⟨w.heap.size, 0, none⟩) 3 aL :=
  ⟨Nat.le_refl _, by unfold maxLen; omega, fun n q hq => by
    match n, hq with
    | 0, hq => simp [aL] at hq; subst hq; exact ⟨_, 0, rfl, World.cell?_alloc_new _ _ _ _, World.cell?_alloc_new _ _ _ _⟩
    | 1, hq => simp [aL] at hq; subst hq; exact ⟨_, 0, rfl, World.cell?_alloc_new _ _ _ _, World.cell?_alloc_new _ _ _ _⟩
    | 2, hq => simp [aL] at hq; subst hq; exact ⟨_, 0, rfl, World.cell?_alloc_new _ _ _ _, World.cell?_alloc_new _ _ _ _⟩
    | n + 3, hq => simp [aL] at hq, fun e => by cases e⟩
theorem a_kc {W : World} {ap : Option Addr} {cp : Nat} (h : Ns W ap cp aP) : ∃ b o pa pc, ap = some ⟨b, o, none⟩ ∧ 3 ≤ cp ∧ W.cell? ⟨b, o + 1, none⟩ = some (.int .i64 2) ∧ W.cell? ⟨b, o + 6 + 4, none⟩ = some (.slice pa 1 pc) := by
  obtain ⟨b, o, pa, pc, e, hna⟩ := h.2.2 0 _ rfl
  obtain ⟨b', o', pa', pc', e', hna'⟩ := h.2.2 1 _ rfl
  rw [e] at e'
  cases e'
  have h1 := h.1
  simp [aP] at h1
  have h2 := hna.c1
  have h3 := hna'.c4
  rw [Nat.zero_mul, Nat.add_zero] at h2
  rw [Nat.one_mul] at h3
  exact ⟨b, o, pa', pc', e, h1, h2, h3⟩
set_option maxRecDepth 100000 in
set_option maxHeartbeats 6400000 in
theorem awake_any (w : World) : Calls Try.prog 9 #[] w fun e w' => e = .returned (.bool true) ∧ Below w.heap.size w w' := by
  have b0 : Below w.heap.size w (w.alloc (.cells #[.int .i64 1, .int .i64 0, .int .i64 2, .int .i64 0, .int .i64 3, .int .i64 0] 54)) := al1 _
  have c1 : Calls Try.prog 28 #[.slice (some ⟨w.heap.size, 0, none⟩) 3 3] (w.alloc (.cells #[.int .i64 1, .int .i64 0, .int .i64 2, .int .i64 0, .int .i64 3, .int .i64 0] 54)) (fun e w' => ∃ a c, e = .returned (.agg #[.int .i64 0, .slice a 1 c]) ∧ Ns w' a c (oneN aL) ∧ Below (w.alloc (.cells #[.int .i64 1, .int .i64 0, .int .i64 2, .int .i64 0, .int .i64 3, .int .i64 0] 54)).heap.size (w.alloc (.cells #[.int .i64 1, .int .i64 0, .int .i64 2, .int .i64 0, .int .i64 3, .int .i64 0] 54)) w') :=
    tone_any (some ⟨w.heap.size, 0, none⟩) 3 aL _ (a_prs w) (by decide) aL (by rw [if_pos aL_srt])
  have c2 : ∀ (W : World) (a : Option Addr) (c : Nat), Ns W a c (oneN aL) → Calls Try.prog 10 #[.agg #[.int .i64 0, .slice a 1 c], .int .i64 0] W (fun e w' => ∃ ao cp, e = .returned (.tuple #[.agg #[.int .i64 0, .slice ao 3 cp], .bool true]) ∧ Ns w' ao cp aP ∧ Below W.heap.size W w') :=
    fun W a c h => split_any 0 a c (oneN aL) 0 W h aO_small (by decide) true aP a_spl
  have c3 : ∀ (W : World) (a : Option Addr) (c : Nat), Ns W a c aP → Calls Try.prog 16 #[.agg #[.int .i64 0, .slice a 3 c], .int .i64 1] W (fun e w' => e = .returned (.tuple #[.int .i64 2, .bool true]) ∧ Below W.heap.size W w') :=
    fun W a c h => next_any 0 a c aP 1 W h aP_small (some 2) a_nxt
  have c4 : ∀ (W : World) (a : Option Addr) (c : Nat), Ns W a c aP → Calls Try.prog 12 #[.agg #[.int .i64 0, .slice a 3 c], .int .i64 2] W (fun e w' => ∃ ao cp, e = .returned (.tuple #[.agg #[.int .i64 0, .slice ao 1 cp], .bool true]) ∧ Ns w' ao cp (oneN aL) ∧ Below W.heap.size W w') :=
    fun W a c h => join_any 0 a c aP 2 W h aP_small aP_all true (oneN aL) a_joi
  have c5 : ∀ (W : World) (a : Option Addr) (c : Nat) (a' : Option Addr) (c' : Nat), Ns W a c (oneN aL) → Ns W a' c' (oneN aL) → Calls Try.prog 25 #[.agg #[.int .i64 0, .slice a 1 c], .agg #[.int .i64 0, .slice a' 1 c']] W (fun e w' => e = .returned (.bool true) ∧ Below W.heap.size W w') :=
    fun W a c a' c' h h' => tsame_any 0 0 a a' c c' (oneN aL) (oneN aL) W h h' aO_small aO_small true true _ _ aO_pl aO_pl true ⟨fun _ => ⟨rfl, rfl, rfl⟩, fun _ => rfl⟩
  have HB := Lib.hid b0
  clear b0
  go_enter Try.func9, Try.ntmps9
  go_wp2_with (first
    | (go_at_call 28; ((with_reducible refine c1.mono ?_); clear c1; rintro e W1 ⟨a1, d1, rfl, hn1, hb1⟩; have B1 := Lib.hid (bel1 (bel2 HB.out hb1) (.cells #[.int .i64 0, .slice a1 1 d1] 24)); have N1 := Lib.hid (hn1.keep (al1 (.cells #[.int .i64 0, .slice a1 1 d1] 24))); have R1 := Lib.hid (Bk.new W1 #[.int .i64 0, .slice a1 1 d1] 24); clear hn1 hb1))
    | (go_at_call 10; ((with_reducible refine (c2 _ _ _ N1.out).mono ?_); clear c2; rintro e W2 ⟨a2, d2, rfl, hn2, hb2⟩; have B2 := Lib.hid (bel1 (bel2 B1.out hb2) (.cells #[.int .i64 0, .slice a2 3 d2] 24)); have N2 := Lib.hid (hn2.keep (al1 (.cells #[.int .i64 0, .slice a2 3 d2] 24))); have M2 := Lib.hid ((N1.out.keep hb2).keep (al1 (.cells #[.int .i64 0, .slice a2 3 d2] 24))); have Q2 := Lib.hid ((R1.out.keep hb2).past (.cells #[.int .i64 0, .slice a2 3 d2] 24)); have R2 := Lib.hid (Bk.new W2 #[.int .i64 0, .slice a2 3 d2] 24); clear hn2 hb2))
    | (go_at_call 16; ((with_reducible refine (c3 _ _ _ N2.out).mono ?_); clear c3; rintro e W3 ⟨rfl, hb3⟩; have B3 := Lib.hid (bel2 B2.out hb3); have N3 := Lib.hid (N2.out.keep hb3); have M3 := Lib.hid (M2.out.keep hb3); have Q3 := Lib.hid (Q2.out.keep hb3); have R3 := Lib.hid (R2.out.keep hb3); clear hb3; have x0 := R3.out.at_ 0 _ rfl; have x1 := R3.out.at_ 1 _ rfl))
    | (go_at_call 12; ((with_reducible refine (c4 _ _ _ N3.out).mono ?_); clear c4; rintro e W4 ⟨a4, d4, rfl, hn4, hb4⟩; have B4 := Lib.hid (bel1 (bel2 B3.out hb4) (.cells #[.int .i64 0, .slice a4 1 d4] 24)); have N4 := Lib.hid (hn4.keep (al1 (.cells #[.int .i64 0, .slice a4 1 d4] 24))); have P4 := ((N3.out.keep hb4).keep (al1 (.cells #[.int .i64 0, .slice a4 1 d4] 24))); have M4 := Lib.hid ((M3.out.keep hb4).keep (al1 (.cells #[.int .i64 0, .slice a4 1 d4] 24))); have Q4 := ((Q3.out.keep hb4).past (.cells #[.int .i64 0, .slice a4 1 d4] 24)); have R4 := ((R3.out.keep hb4).past (.cells #[.int .i64 0, .slice a4 1 d4] 24)); clear hn4 hb4 x0 x1; obtain ⟨b2, o2, pa2, pc2, rfl, hd2, z1, z4⟩ := a_kc P4; have hd2i : (3 : Int) ≤ (d2 : Int) := (by omega); have x0 := R4.at_ 0 _ rfl; have x1 := R4.at_ 1 _ rfl; have y0 := Q4.at_ 0 _ rfl; have y1 := Q4.at_ 1 _ rfl; clear P4 Q4 R4))
    | (go_at_call 25; ((with_reducible refine (c5 _ _ _ _ _ N4.out M4.out).mono ?_); clear c5; rintro e W5 ⟨rfl, hb5⟩))
    | fail)
  go_ret
  exact ⟨rfl, bel2 B4.out hb5⟩
#print axioms awake_any
end Go.Proofs.Yteebceecohhegaa
