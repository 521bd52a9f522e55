/- osierref1.One exactly. No condition: a lemma. What Plain tells, in one word; osierref1.Leaves out of Plain. No condition: lemmas. -/
import Derived.Test.YtpdliokpbnpppaaGreatTrU
import Derived.Test.YtpdliokpbnpppaaGreatTrR
import Derived.Test.YtpdliokpbnpppaaGreatTrF
namespace Go.Proofs.YtpdliokpbnpppaaGreat
open Go.RowKit
/-- Plain's answer. -/
def PlO (N : List Nd) (t : Int) (x : Bool) (P : List Nd) : Prop := (∃ s, Tr N s t ∧ x = true ∧ P = lay N s 0) ∨ ((∀ s, ¬ Tr N s t) ∧ x = false ∧ P = [])
def PlB (w : World) (x : Bool) (P : List Nd) (e : Ending) (w' : World) : Prop := ∃ ao cp, e = .returned (.tuple #[.agg #[.int .i64 0, .slice ao P.length cp], .bool x]) ∧ Ns w' ao cp P ∧ Below w.heap.size w w'
theorem PlO.small {N : List Nd} {t : Int} {x : Bool} {P : List Nd} (h : PlO N t x P) (hsm : Small N) : Small P := by
 rcases h with ⟨s, h, rfl, rfl⟩ | ⟨_, rfl, rfl⟩
 · exact lay_small h hsm
 · exact ⟨Nat.zero_le _, fun n hn => (by cases hn)⟩
theorem PlO.tr {N : List Nd} {t : Int} {x : Bool} {P : List Nd} (h : PlO N t x P) : x = true ↔ ∃ s, Tr N s t := by
 rcases h with ⟨s, h, rfl, rfl⟩ | ⟨h, rfl, rfl⟩
 · exact ⟨fun _ => ⟨s, h⟩, fun _ => rfl⟩
 · exact ⟨fun h => (by cases h), fun ⟨s, hs⟩ => absurd hs (h s)⟩
/-- osierref1.Plain is right of this tree. -/
def RP (t : Int) (a : Option Addr) (cap : Nat) (N : List Nd) (x : Bool) (P : List Nd) : Prop := ∀ W, Ns W a cap N → Calls Tryz.prog 27 #[trv t a cap N] W (PlB W x P)
theorem rleaves_gen (t : Int) (a : Option Addr) (cap : Nat) (N : List Nd) (w : World) (hN : Ns w a cap N) (hsm : Small N) (x : Bool) (P : List Nd) (hP : PlO N t x P) (cp : RP t a cap N x P) (ls : List Nat) (h : lvO N t ls) :
 Calls Tryz.prog 37 #[trv t a cap N] w (LvIs w ls) := by
 have hl1 := hsm.1
 have b1 : Below w.heap.size w (w.alloc (.cells #[.int .i64 t, .slice a N.length cap] 24)) := al1 _
 have cm := cp _ (hN.keep b1)
 have B1 := Lib.hid (Bk.new w #[.int .i64 t, .slice a N.length cap] 24)
 have HB := Lib.hid b1
 rcases h with ⟨s, h, rfl⟩ | ⟨h, rfl⟩
 · have hx : x = true := hP.tr.2 ⟨s, h⟩
   subst hx
   have hsl : s.lvs.length ≤ N.length := by have := lvs_len s; have := h.all; omega
   have cl := fun (W : World) (hb : Below w.heap.size w W) => (leaves_any (T := t) hN hsm s t none none h.hg W none 0 [] (by simp; omega) hb (Nums.nil _ _)).mono (R' := fun e w' => ∃ ao cap2, e = .returned (.slice ao s.lvs.length cap2) ∧ Ws W (.slice none 0 0) w' (.slice ao s.lvs.length cap2) (preI s.lvs)) (fun e w' hh => by
    obtain ⟨ao, cap2, rfl, hw⟩ := hh
    have e2 : (([] : List Int) ++ preI s.lvs).length = s.lvs.length := by simp [preI]
    rw [e2] at hw ⊢
    exact ⟨ao, cap2, rfl, hw⟩)
   simp only [List.length_nil] at cl
   unfold PlB at cm
   unfold trv at cm cl ⊢
   clear b1 hN h hP cp hsl
   go_enter Tryz.func37, Tryz.ntmps37
   go_wp2_with (first
    | (go_at_call 27; ((with_reducible refine cm.mono ?_); clear cm; rintro e w3 ⟨ao, c, rfl, -, hb3⟩; have R1 := Lib.hid (B1.out.keep hb3); have HB3 := Lib.hid (bel2 HB.out hb3); clear hb3; have R2 := Lib.hid (R1.out.past (.cells #[.int .i64 0, .slice ao P.length c] 24)); have k0 := R2.out.at_ 0 _ rfl; have k1 := R2.out.at_ 1 _ rfl))
    | (go_at_call 36; ((with_reducible refine (cl _ (bel1 HB3.out _)).mono ?_); clear cl; rintro e w4 ⟨ao2, cap2, rfl, hw⟩))
    | fail)
   go_ret
   exact ⟨ao2, cap2, rfl, hw.n.ri, hw.below (bel1 HB3.out _) (Nat.le_refl _) (fun k hk => by simp [Value.ownBlock] at hk)⟩
 · have hx : x = false := by
    cases x
    · rfl
    · obtain ⟨s, hs⟩ := hP.tr.1 rfl
      exact absurd hs (h s)
   subst hx
   unfold PlB at cm
   unfold trv at cm ⊢
   clear b1 hN h hP cp
   go_enter Tryz.func37, Tryz.ntmps37
   go_wp2_with (first
    | (go_at_call 27; ((with_reducible refine cm.mono ?_); clear cm; rintro e w3 ⟨ao, c, rfl, -, hb3⟩; have HB3 := Lib.hid (bel2 HB.out hb3); clear hb3))
    | fail)
   go_ret
   refine ⟨none, 0, rfl, RI.none _ _ _ (Nat.zero_le _), ?_⟩
   repeat' (first | refine Below.setCell ?_ (by exact HB3.out.size) _ | exact bel1 HB3.out _ | exact HB3.out)
end Go.Proofs.YtpdliokpbnpppaaGreat
