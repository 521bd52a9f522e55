/- tree.copied, tree.copiedNode. No condition: lemmas. -/
import Derived.Test.YtlpjbgojijkdjaaTrR
namespace Go.Proofs.Ytlpjbgojijkdjaa
open Go.RowKit
set_option linter.all false

set_option maxRecDepth 100000 in
set_option maxHeartbeats 6400000 in
theorem copied_any (a : Option Addr) (cap : Nat) (l : List Pr) (w : World) (h : Prs w a cap l) (hl : l.length ≤ 100000) :
    Calls Try.prog 37 #[.slice a l.length cap] w (RowIs w l) := by
  have HS := Lib.hid (src_any h)
  have HL := Lib.hid (show ([] : List Pr).length + l.length ≤ 1000000 by simp; omega)
  have hl' : ([] : List Pr).length + l.length = l.length := by simp
  have HE := Lib.hid hl'
  clear h hl hl'
  go_enter Try.func37, Try.ntmps37
  go_wp2_with (at_builtin; refine wpList_app rfl _ (.tmp 3) rfl (fun j => j < w.heap.size) _ [] l rfl (PRow.nil _ _) (fun k hk => hk) _ rfl HS.out HL.out _ HE.out _ rfl ?_; intro ao4 cp4 w4 hm4 hc4 hR4 hO4; have HF := Lib.hid (And.intro hR4 (only_lt (Below.refl _ _) hO4)); clear hR4 hO4; unfold maxLen at hm4)
  go_ret
  exact ⟨ao4, cp4, rfl, HF.out.1, HF.out.2⟩

/-- What copiedNode tells. -/
def CnIs (w : World) (n : Nd) (e : Ending) (w' : World) : Prop := ∃ ao cp, e = .returned (ndv n ao cp) ∧ PRow w' (fun j => j < w.heap.size) (.slice ao n.p.length cp) n.p ∧ Below w.heap.size w w'
set_option maxRecDepth 100000 in
set_option maxHeartbeats 6400000 in
theorem cnode_any (n : Nd) (pa : Option Addr) (pc : Nat) (w : World) (h : Prs w pa pc n.p) (hl : n.p.length ≤ 100000) :
    Calls Try.prog 35 #[ndv n pa pc] w (CnIs w n) := by
  obtain ⟨r, k, l, b, p, s⟩ := n
  unfold CnIs ndv
  dsimp only at h hl ⊢
  have b1 : Below w.heap.size w (w.alloc (.cells #[.bool r, .int .i64 k, .int .i64 l, .int .i64 b, .slice pa p.length pc, .int .i64 s] 51)) := al1 _
  have b2 : Below w.heap.size w ((w.alloc (.cells #[.bool r, .int .i64 k, .int .i64 l, .int .i64 b, .slice pa p.length pc, .int .i64 s] 51)).alloc (.cells #[.bool false, .int .i64 0, .int .i64 0, .int .i64 0, .slice none 0 0, .int .i64 0] 51)) := bel1 b1 _
  have cc := copied_any pa pc p _ (h.below b2) hl
  have B1 := Lib.hid (Bk.past (Bk.new w #[.bool r, .int .i64 k, .int .i64 l, .int .i64 b, .slice pa p.length pc, .int .i64 s] 51) (.cells #[.bool false, .int .i64 0, .int .i64 0, .int .i64 0, .slice none 0 0, .int .i64 0] 51))
  have B2 := Lib.hid (show Bk ((w.alloc (.cells #[.bool r, .int .i64 k, .int .i64 l, .int .i64 b, .slice pa p.length pc, .int .i64 s] 51)).alloc (.cells #[.bool false, .int .i64 0, .int .i64 0, .int .i64 0, .slice none 0 0, .int .i64 0] 51)) (w.heap.size + 1) [.bool false, .int .i64 0, .int .i64 0, .int .i64 0, .slice none 0 0, .int .i64 0] from by
    have h := Bk.new (w.alloc (.cells #[.bool r, .int .i64 k, .int .i64 l, .int .i64 b, .slice pa p.length pc, .int .i64 s] 51)) #[.bool false, .int .i64 0, .int .i64 0, .int .i64 0, .slice none 0 0, .int .i64 0] 51
    simp only [World.size_alloc] at h; exact h)
  have HB := Lib.hid b2
  clear b1 b2 h hl
  go_enter Try.func35, Try.ntmps35
  go_wp2_with (go_at_call 37; ((with_reducible refine cc.mono ?_); clear cc; rintro e w3 ⟨ao, cp, rfl, hR, hb3⟩; have R1 := Lib.hid (B1.out.keep hb3); have R2 := Lib.hid (B2.out.keep hb3); have HR := Lib.hid (And.intro hR hb3); clear hR hb3; have f4 := R1.out.fr 4; have g0 := R2.out.fr 0; have g1 := R2.out.fr 1; have g2 := R2.out.fr 2; have g3 := R2.out.fr 3; have g4 := R2.out.fr 4; have g5 := R2.out.fr 5; have k0 := R1.out.at_ 0 _ rfl; have k1 := R1.out.at_ 1 _ rfl; have k2 := R1.out.at_ 2 _ rfl; have k3 := R1.out.at_ 3 _ rfl; have k4 := R1.out.at_ 4 _ rfl; have k5 := R1.out.at_ 5 _ rfl; have m0 := R2.out.at_ 0 _ rfl; have m1 := R2.out.at_ 1 _ rfl; have m2 := R2.out.at_ 2 _ rfl; have m3 := R2.out.at_ 3 _ rfl; have m4 := R2.out.at_ 4 _ rfl; have m5 := R2.out.at_ 5 _ rfl))
  refine bodyPost_ret (v := .agg #[.bool r, .int .i64 k, .int .i64 l, .int .i64 b, .slice ao p.length cp, .int .i64 s]) (by simp [results, Try.results35, go_sem, k0, k1, k2, k3, k5, m0, m1, m2, m3, m4, m5]) rfl ⟨ao, cp, rfl, ?_, ?_⟩
  · refine ((HR.out.1.only (F := fun j => j < w.heap.size + 2) (w' := _) ?_ (fun k hk => by simp; omega)).sub (fun k _ hk => ?_))
    · repeat' (first | refine Only.setCell ?_ (.inl (by show _ < _; dsimp only; omega)) _ | exact Only.refl _ w3)
    · show k < _; simp; omega
  · repeat' (first | refine Below.setCell ?_ (by dsimp only; omega) _ | exact bel2 HB.out HR.out.2)
#print axioms cnode_any
end Go.Proofs.Ytlpjbgojijkdjaa
