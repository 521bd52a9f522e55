/- osierref1.One exactly. No condition: a lemma. -/
import Derived.Test.YtlpjbgojijkdjaaTrV
namespace Go.Proofs.Ytlpjbgojijkdjaa
open Go.RowKit
set_option linter.all false
set_option maxRecDepth 100000 in
set_option maxHeartbeats 6400000 in
theorem rone_any (a : Option Addr) (cap : Nat) (l : List Pr) (w : World) (h : Prs w a cap l) (hl : l.length ≤ 2100) (L : List Pr) (hL : L = if Srt l then l else []) :
    Calls Try.prog 26 #[.slice a l.length cap] w (TnIs w 0 (oneN L)) := by
  have b1 : Below w.heap.size w (w.alloc (.cells #[.int .i64 0, .slice none 0 0] 24)) := al1 _
  have B1 := Lib.hid (Bk.new w #[.int .i64 0, .slice none 0 0] 24)
  have HB := Lib.hid b1
  have HH := Lib.hid (h.below b1)
  clear h b1
  by_cases hs : Srt l
  · rw [if_pos hs] at hL; subst hL
    have cm := rmay_any a cap L _ HH.out true (by simp [hs])
    have HEE := Lib.hid (show ([] : List Pr).length + (L : List Pr).length = L.length by simp)
    
    clear hs
    go_enter Try.func26, Try.ntmps26
    go_wp2_with (first
      | (go_at_call 32; ((with_reducible refine cm.mono ?_); clear cm; rintro e w2 ⟨rfl, hb2⟩; have HB2 := Lib.hid (show Below (w.alloc (.cells #[.int .i64 0, .slice none 0 0] 24)).heap.size (w.alloc (.cells #[.int .i64 0, .slice none 0 0] 24)) w2 from hb2); have R2 := Lib.hid (B1.out.keep hb2); clear hb2))
      | (at_builtin; refine wpList_app rfl _ (.tmp 6) rfl (fun j => j < w2.heap.size) _ [] L rfl (PRow.nil _ _) (fun k hk => hk) _ rfl (src_any (HH.out.below HB2.out)) (by simp; omega) _ HEE.out _ rfl ?_; intro ao cp w3 hm4 hc4 hR4 hO4; have H3 := Lib.hid (And.intro hR4 (only_lt HB2.out (hO4.mono (fun i hi hl hh => hi (Nat.lt_of_lt_of_le hh (HB2.out.size)))))); have R3 := Lib.hid (show Bk w3 w.heap.size _ from R2.out.only hO4 (fun hh => hh R2.out.lt)); clear hR4 hO4; unfold maxLen at hm4; have R4 := Lib.hid (R3.out.past (.cells #[.bool false, .int .i64 0, .int .i64 0, .int .i64 0, .slice ao L.length cp, .int .i64 0] 51)); have g0 := R4.out.fr 0; have g1 := R4.out.fr 1; have m0 := R4.out.at_ 0 _ rfl; have m1 := R4.out.at_ 1 _ rfl)
      | fail)
    refine bodyPost_ret (v := .agg #[.int .i64 0, .slice (some ⟨w3.heap.size, 0, none⟩) 1 1]) (by simp [results, Try.results26, go_sem, m0, m1]) rfl ⟨_, _, rfl, ?_, ?_⟩
    · have hp := ((H3.out.1.prs rfl).below (al1 (.cells #[.bool false, .int .i64 0, .int .i64 0, .int .i64 0, .slice ao L.length cp, .int .i64 0] 51)))
      have hO : Only (fun k => k = w.heap.size) (w3.alloc (.cells #[.bool false, .int .i64 0, .int .i64 0, .int .i64 0, .slice ao L.length cp, .int .i64 0] 51)) (((w3.alloc (.cells #[.bool false, .int .i64 0, .int .i64 0, .int .i64 0, .slice ao L.length cp, .int .i64 0] 51)).setCell ⟨w.heap.size, 0, none⟩ (.int .i64 0)).setCell ⟨w.heap.size, 1, none⟩ (.slice (some ⟨w3.heap.size, 0, none⟩) 1 1)) :=
        ((Only.refl _ _).setCell (S := fun k => k = w.heap.size) (p := ⟨w.heap.size, 0, none⟩) (.inl rfl) _).setCell (S := fun k => k = w.heap.size) (p := ⟨w.heap.size, 1, none⟩) (.inl rfl) _
      have hlt := R3.out.lt
      have hw2 := R2.out.lt
      exact ns_lit w _ w3.heap.size L ao cp ((Bk.new w3 #[.bool false, .int .i64 0, .int .i64 0, .int .i64 0, .slice ao L.length cp, .int .i64 0] 51).only hO (by show ¬ (_ = _); omega))
        (prs_only hp hO (fun hne b o sp e hb => by
          have h1 := H3.out.1.av b (by rw [e]; rfl)
          have h2 : ¬ b < w2.heap.size := h1
          omega))
    · have h2 := H3.out.2
      repeat' (first | refine Below.setCell ?_ (by dsimp only; omega) _ | refine Below.alloc ?_ (by have := R3.out.lt; omega) _ | exact bel2 HB.out H3.out.2)
  · rw [if_neg hs] at hL; subst hL
    have cm := rmay_any a cap l _ HH.out false (by simp [hs])
    clear hs
    go_enter Try.func26, Try.ntmps26
    go_wp2_with (first
      | (go_at_call 32; ((with_reducible refine cm.mono ?_); clear cm; rintro e w3 ⟨rfl, hb2⟩; have H3 := Lib.hid (show Below w.heap.size w w3 from bel2 HB.out hb2); have R3 := Lib.hid (B1.out.keep hb2); clear hb2; have R4 := Lib.hid (R3.out.past (.cells #[.bool false, .int .i64 0, .int .i64 0, .int .i64 0, .slice none 0 0, .int .i64 0] 51)); have g0 := R4.out.fr 0; have g1 := R4.out.fr 1; have m0 := R4.out.at_ 0 _ rfl; have m1 := R4.out.at_ 1 _ rfl))
      | fail)
    refine bodyPost_ret (v := .agg #[.int .i64 0, .slice (some ⟨w3.heap.size, 0, none⟩) 1 1]) (by simp [results, Try.results26, go_sem, m0, m1]) rfl ⟨_, _, rfl, ?_, ?_⟩
    · have hO : Only (fun k => k = w.heap.size) (w3.alloc (.cells #[.bool false, .int .i64 0, .int .i64 0, .int .i64 0, .slice none 0 0, .int .i64 0] 51)) (((w3.alloc (.cells #[.bool false, .int .i64 0, .int .i64 0, .int .i64 0, .slice none 0 0, .int .i64 0] 51)).setCell ⟨w.heap.size, 0, none⟩ (.int .i64 0)).setCell ⟨w.heap.size, 1, none⟩ (.slice (some ⟨w3.heap.size, 0, none⟩) 1 1)) :=
        ((Only.refl _ _).setCell (S := fun k => k = w.heap.size) (p := ⟨w.heap.size, 0, none⟩) (.inl rfl) _).setCell (S := fun k => k = w.heap.size) (p := ⟨w.heap.size, 1, none⟩) (.inl rfl) _
      have hlt := R3.out.lt
      exact ns_lit w _ w3.heap.size [] none 0 ((Bk.new w3 #[.bool false, .int .i64 0, .int .i64 0, .int .i64 0, .slice none 0 0, .int .i64 0] 51).only hO (by show ¬ (_ = _); omega)) (Prs.nil _)
    · have h2 := H3.out
      repeat' (first | refine Below.setCell ?_ (by dsimp only; omega) _ | refine Below.alloc ?_ (by have := R3.out.lt; omega) _ | exact H3.out)
#print axioms rone_any
end Go.Proofs.Ytlpjbgojijkdjaa
