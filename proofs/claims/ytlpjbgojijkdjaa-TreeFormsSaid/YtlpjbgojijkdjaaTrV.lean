/- Path.Top, Path.Right, tree.One. No condition: lemmas. -/
import Derived.Test.YtlpjbgojijkdjaaTrP
import Derived.Test.YtlpjbgojijkdjaaTrU
namespace Go.Proofs.Ytlpjbgojijkdjaa
open Go.RowKit
set_option linter.all false

def ptv (i : Int) (au : Option Addr) (n cu : Nat) (ad : Option Addr) (m cd : Nat) : Value := .agg #[.int .i64 i, .slice au n cu, .slice ad m cd]
theorem top_any (i : Int) (au ad : Option Addr) (n m cu cd : Nat) (w : World) (hn : n ≤ 1000000) (B : Bool) (hB : B = true ↔ n = 0) :
    Calls Try.prog 29 #[ptv i au n cu ad m cd] w fun e w' => e = .returned (.bool B) ∧ Below w.heap.size w w' := by
  unfold ptv
  have b1 : Below w.heap.size w (w.alloc (.cells #[.int .i64 i, .slice au n cu, .slice ad m cd] 41)) := al1 _
  by_cases h : n = 0
  · subst h
    obtain rfl : B = true := hB.2 rfl
    clear hB
    go_enter Try.func29, Try.ntmps29
    go_wp2_with (fail)
    go_ret
    exact ⟨rfl, b1⟩
  · obtain rfl : B = false := by cases B <;> simp_all
    have h' : ((n : Int) == 0) = false := by simp; omega
    clear hB
    go_enter Try.func29, Try.ntmps29
    go_wp2_with (fail)
    go_ret
    exact ⟨rfl, b1⟩
theorem right_any' (i : Int) (au ad : Option Addr) (n cu cd : Nat) (D : List Bool) (w : World) (hn : n ≤ 1000000) (hD : n = D.length) (hR : RB w ad cd D) (B : Bool) (hB : D.getLast?.getD false = B) :
    Calls Try.prog 30 #[ptv i au n cu ad n cd] w fun e w' => e = .returned (.bool B) ∧ Below w.heap.size w w' := by
  unfold ptv
  have b1 : Below w.heap.size w (w.alloc (.cells #[.int .i64 i, .slice au n cu, .slice ad n cd] 41)) := al1 _
  have hc1 := hR.1
  have hc2 := hR.2.1
  unfold maxLen at hc2
  rcases List.eq_nil_or_concat D with rfl | ⟨D', b, rfl⟩
  · simp at hD hB
    subst hD; subst hB
    clear hR
    go_enter Try.func30, Try.ntmps30
    go_wp2_with (fail)
    go_ret
    exact ⟨rfl, b1⟩
  · simp at hD hB
    subst hB
    obtain ⟨b0, o0, rfl, c0⟩ := hR.2.2 D'.length b (by simp)
    have c1 := kc b1 c0
    subst hD
    generalize D'.length = d at *
    have hw : wrap64 (((d + 1 : Nat) : Int) - 1) = (d : Int) := by unfold wrap64; omega
    have h0 : (0 : Int) ≤ (d : Int) := by omega
    have h1 : (d : Int) < ((d + 1 : Nat) : Int) := by omega
    clear hR c0
    go_enter Try.func30, Try.ntmps30
    go_wp2_with (fail)
    go_ret
    exact ⟨rfl, b1⟩

/-- The tree of one leaf. -/
def oneN (l : List Pr) : List Nd := [⟨false, 0, 0, 0, l, 0⟩]
theorem tr_one (l : List Pr) (h : Srt l) : Tr (oneN l) (.lf 0) 0 :=
  ⟨by simp [oneN], ⟨rfl, ⟨false, 0, 0, 0, l, 0⟩, rfl, rfl, rfl, rfl, rfl, by dsimp only; omega, by dsimp only; omega, h, fun q _ => inS_any q.1⟩, by simp [Sh.pre], by simp [Sh.pre, oneN]⟩
/-- What One tells: a tree in memory of its own. -/
def TnIs (w : World) (t : Int) (P : List Nd) (e : Ending) (w' : World) : Prop := ∃ ao cp, e = .returned (.agg #[.int .i64 t, .slice ao P.length cp]) ∧ Ns w' ao cp P ∧ Below w.heap.size w w'
theorem ns_lit (w w3 : World) (g : Nat) (l : List Pr) (ao : Option Addr) (cp : Nat) (hB : Bk w3 g [.bool false, .int .i64 0, .int .i64 0, .int .i64 0, .slice ao l.length cp, .int .i64 0]) (hp : Prs w3 ao cp l) : Ns w3 (some ⟨g, 0, none⟩) 1 (oneN l) :=
  ⟨by simp [oneN], by unfold maxLen; omega, fun i n hn => by
    match i, hn with
    | 0, hn =>
      simp [oneN] at hn
      subst hn
      exact ⟨g, 0, ao, cp, rfl, hB.at_ 0 _ rfl, hB.at_ 1 _ rfl, hB.at_ 2 _ rfl, hB.at_ 3 _ rfl, hB.at_ 4 _ rfl, hB.at_ 5 _ rfl, hp⟩⟩
set_option maxRecDepth 100000 in
set_option maxHeartbeats 6400000 in
theorem tone_any (a : Option Addr) (cap : Nat) (l : List Pr) (w : World) (h : Prs w a cap l) (hl : l.length ≤ 2100) (L : List Pr) (hL : L = if Srt l then l else []) :
    Calls Try.prog 25 #[.slice a l.length cap] w (TnIs w 0 (oneN L)) := by
  have b1 : Below w.heap.size w (w.alloc (.cells #[.int .i64 0, .slice none 0 0] 24)) := al1 _
  have B1 := Lib.hid (Bk.new w #[.int .i64 0, .slice none 0 0] 24)
  have HB := Lib.hid b1
  have HH := Lib.hid (h.below b1)
  clear h b1
  by_cases hs : Srt l
  · rw [if_pos hs] at hL; subst hL
    have cm := lmay_any a cap L _ HH.out true (by simp [hs])
    have cc := fun W (hW : Prs W a cap L) => copied_any a cap L W hW (by omega)
    
    clear hs
    go_enter Try.func25, Try.ntmps25
    go_wp2_with (first
      | (go_at_call 47; ((with_reducible refine cm.mono ?_); clear cm; rintro e w2 ⟨rfl, hb2⟩; have HB2 := Lib.hid (show Below (w.alloc (.cells #[.int .i64 0, .slice none 0 0] 24)).heap.size (w.alloc (.cells #[.int .i64 0, .slice none 0 0] 24)) w2 from hb2); have R2 := Lib.hid (B1.out.keep hb2); clear hb2))
      | (go_at_call 37; ((with_reducible refine (cc _ (HH.out.below HB2.out)).mono ?_); clear cc; rintro e w3 ⟨ao, cp, rfl, hR, hb3⟩; have H3 := Lib.hid (And.intro hR (bel2 HB2.out hb3)); have R3 := Lib.hid (R2.out.keep hb3); clear hR hb3; have R4 := Lib.hid (R3.out.past (.cells #[.bool false, .int .i64 0, .int .i64 0, .int .i64 0, .slice ao L.length cp, .int .i64 0] 51)); have g0 := R4.out.fr 0; have g1 := R4.out.fr 1; have m0 := R4.out.at_ 0 _ rfl; have m1 := R4.out.at_ 1 _ rfl))
      | fail)
    refine bodyPost_ret (v := .agg #[.int .i64 0, .slice (some ⟨w3.heap.size, 0, none⟩) 1 1]) (by simp [results, Try.results25, go_sem, m0, m1]) rfl ⟨_, _, rfl, ?_, ?_⟩
    · have hp := ((H3.out.1.prs rfl).below (al1 (.cells #[.bool false, .int .i64 0, .int .i64 0, .int .i64 0, .slice ao L.length cp, .int .i64 0] 51)))
      have hO : Only (fun k => k = w.heap.size) (w3.alloc (.cells #[.bool false, .int .i64 0, .int .i64 0, .int .i64 0, .slice ao L.length cp, .int .i64 0] 51)) (((w3.alloc (.cells #[.bool false, .int .i64 0, .int .i64 0, .int .i64 0, .slice ao L.length cp, .int .i64 0] 51)).setCell ⟨w.heap.size, 0, none⟩ (.int .i64 0)).setCell ⟨w.heap.size, 1, none⟩ (.slice (some ⟨w3.heap.size, 0, none⟩) 1 1)) :=
        ((Only.refl _ _).setCell (S := fun k => k = w.heap.size) (p := ⟨w.heap.size, 0, none⟩) (.inl rfl) _).setCell (S := fun k => k = w.heap.size) (p := ⟨w.heap.size, 1, none⟩) (.inl rfl) _
      have hlt := R3.out.lt
      have hw2 := R2.out.lt
      exact ns_lit w _ w3.heap.size L ao cp ((Bk.new w3 #[.bool false, .int .i64 0, .int .i64 0, .int .i64 0, .slice ao L.length cp, .int .i64 0] 51).only hO (by show ¬ (_ = _); omega))
        (prs_only hp hO (fun hne b o sp e hb => by
          have h1 := H3.out.1.av b (by rw [e]; rfl)
          have h2 : ¬ b < w2.heap.size := h1
          omega))
    · have h2 := H3.out.2
      repeat' (first | refine Below.setCell ?_ (by dsimp only; omega) _ | refine Below.alloc ?_ (by have := R3.out.lt; omega) _ | exact bel2 HB.out H3.out.2)
  · rw [if_neg hs] at hL; subst hL
    have cm := lmay_any a cap l _ HH.out false (by simp [hs])
    have HH := Lib.hid (Prs.nil (w.alloc (.cells #[.int .i64 0, .slice none 0 0] 24)))
    have cc := fun W (hW : Prs W none 0 []) => copied_any none 0 [] W hW (by simp)
    simp only [List.length_nil] at cc
    clear hs
    go_enter Try.func25, Try.ntmps25
    go_wp2_with (first
      | (go_at_call 47; ((with_reducible refine cm.mono ?_); clear cm; rintro e w2 ⟨rfl, hb2⟩; have HB2 := Lib.hid (show Below (w.alloc (.cells #[.int .i64 0, .slice none 0 0] 24)).heap.size (w.alloc (.cells #[.int .i64 0, .slice none 0 0] 24)) w2 from hb2); have R2 := Lib.hid (B1.out.keep hb2); clear hb2))
      | (go_at_call 37; ((with_reducible refine (cc _ (HH.out.below HB2.out)).mono ?_); clear cc; rintro e w3 ⟨ao, cp, rfl, hR, hb3⟩; have H3 := Lib.hid (And.intro hR (bel2 HB2.out hb3)); have R3 := Lib.hid (R2.out.keep hb3); clear hR hb3; have R4 := Lib.hid (R3.out.past (.cells #[.bool false, .int .i64 0, .int .i64 0, .int .i64 0, .slice ao 0 cp, .int .i64 0] 51)); have g0 := R4.out.fr 0; have g1 := R4.out.fr 1; have m0 := R4.out.at_ 0 _ rfl; have m1 := R4.out.at_ 1 _ rfl))
      | fail)
    refine bodyPost_ret (v := .agg #[.int .i64 0, .slice (some ⟨w3.heap.size, 0, none⟩) 1 1]) (by simp [results, Try.results25, go_sem, m0, m1]) rfl ⟨_, _, rfl, ?_, ?_⟩
    · have hp := ((H3.out.1.prs rfl).below (al1 (.cells #[.bool false, .int .i64 0, .int .i64 0, .int .i64 0, .slice ao 0 cp, .int .i64 0] 51)))
      have hO : Only (fun k => k = w.heap.size) (w3.alloc (.cells #[.bool false, .int .i64 0, .int .i64 0, .int .i64 0, .slice ao 0 cp, .int .i64 0] 51)) (((w3.alloc (.cells #[.bool false, .int .i64 0, .int .i64 0, .int .i64 0, .slice ao 0 cp, .int .i64 0] 51)).setCell ⟨w.heap.size, 0, none⟩ (.int .i64 0)).setCell ⟨w.heap.size, 1, none⟩ (.slice (some ⟨w3.heap.size, 0, none⟩) 1 1)) :=
        ((Only.refl _ _).setCell (S := fun k => k = w.heap.size) (p := ⟨w.heap.size, 0, none⟩) (.inl rfl) _).setCell (S := fun k => k = w.heap.size) (p := ⟨w.heap.size, 1, none⟩) (.inl rfl) _
      have hlt := R3.out.lt
      have hw2 := R2.out.lt
      exact ns_lit w _ w3.heap.size [] ao cp ((Bk.new w3 #[.bool false, .int .i64 0, .int .i64 0, .int .i64 0, .slice ao 0 cp, .int .i64 0] 51).only hO (by show ¬ (_ = _); omega))
        (prs_only hp hO (fun hne b o sp e hb => by
          have h1 := H3.out.1.av b (by rw [e]; rfl)
          have h2 : ¬ b < w2.heap.size := h1
          omega))
    · have h2 := H3.out.2
      repeat' (first | refine Below.setCell ?_ (by dsimp only; omega) _ | refine Below.alloc ?_ (by have := R3.out.lt; omega) _ | exact bel2 HB.out H3.out.2)
#print axioms tone_any
end Go.Proofs.Ytlpjbgojijkdjaa
