/- Contracts of look.farthest, Min, Max. -/
import Derived.Test.YtiankcjmclpciaaLk4
import Derived.Deep.CutRange
import Derived.Deep.CutBlock
namespace Go.Proofs.Ytiankcjmclpciaa
open Go.RowKit
set_option linter.all false

theorem Six.past {W : World} {b : Nat} {m0 m1 m2 m3 m4 m5 : Int} (h : Six W b m0 m1 m2 m3 m4 m5) (o : Obj) : Six (W.alloc o) b m0 m1 m2 m3 m4 m5 := h.keep ((Below.refl _ _).alloc (Nat.le_refl _) _)
theorem Six.under {W W' : World} {b n : Nat} {m0 m1 m2 m3 m4 m5 : Int} (h : Six W b m0 m1 m2 m3 m4 m5) (hb : Below n W W') (hn : b < n) : Six W' b m0 m1 m2 m3 m4 m5 := by
  have c : ∀ {j v}, W.cell? ⟨b, j, none⟩ = some v → W'.cell? ⟨b, j, none⟩ = some v := fun {j v} hc => (hb.cell (p := ⟨b, j, none⟩) hn).trans hc
  have f : ∀ {j}, W.frozen? ⟨b, j, none⟩ = false → W'.frozen? ⟨b, j, none⟩ = false := fun {j} hf => (World.frozen?_of_block (a := ⟨b, j, none⟩) (hb.block b hn)).trans hf
  exact ⟨⟨c h.c0, c h.c1, c h.c2, c h.c3, c h.c4, c h.c5⟩, f h.f0, f h.f1, f h.f2, f h.f3, f h.f4, f h.f5⟩

theorem NodeAt.only {W W' : World} {S : Nat → Prop} {b : Nat} {m0 m1 m2 m3 m4 m5 : Int} (h : NodeAt W b m0 m1 m2 m3 m4 m5) (o : Only S W W') (hb : ¬ S b) : NodeAt W' b m0 m1 m2 m3 m4 m5 :=
  ⟨o.cell h.c0 hb, o.cell h.c1 hb, o.cell h.c2 hb, o.cell h.c3 hb, o.cell h.c4 hb, o.cell h.c5 hb⟩
theorem Two.only {W W' : World} {S : Nat → Prop} {b : Nat} {m0 m1 : Int} (h : Two W b m0 m1) (o : Only S W W') (hb : ¬ S b) : Two W' b m0 m1 :=
  have f : ∀ {j}, W.frozen? ⟨b, j, none⟩ = false → W'.frozen? ⟨b, j, none⟩ = false := fun {j} hf => (World.frozen?_of_block (a := ⟨b, j, none⟩) (o.block b h.lt hb)).trans hf
  ⟨o.cell h.c0 hb, o.cell h.c1 hb, f h.f0, f h.f1⟩
theorem Only.setAt {a W : World} {b j : Nat} (h : Only (fun k => k = b) a W) (u : Value) : Only (fun k => k = b) a (W.setCell ⟨b, j, none⟩ u) := Only.setCell (p := ⟨b, j, none⟩) h (.inl rfl) u
/-- All six cells written: still six that can be written; nothing else has turned. -/
theorem Six.put6 {W : World} {b : Nat} {m0 m1 m2 m3 m4 m5 : Int} (h : Six W b m0 m1 m2 m3 m4 m5) (u0 u1 u2 u3 u4 u5 : Int) :
    ∃ Wf, Wf = ((((((W.setCell ⟨b, 0, none⟩ (.int .i64 u0)).setCell ⟨b, 1, none⟩ (.int .i64 u1)).setCell ⟨b, 2, none⟩ (.int .i64 u2)).setCell ⟨b, 3, none⟩ (.int .i64 u3)).setCell ⟨b, 4, none⟩ (.int .i64 u4)).setCell ⟨b, 5, none⟩ (.int .i64 u5)) ∧ Six Wf b u0 u1 u2 u3 u4 u5 ∧ Only (fun k => k = b) W Wf ∧ Below b W Wf := by
  obtain ⟨Wf, e, hN, hB⟩ := h.put u0 u1 u2 u3 u4 u5
  refine ⟨Wf, e, ⟨hN, ?_, ?_, ?_, ?_, ?_, ?_⟩, ?_, hB⟩
  · rw [e]; simp only [World.frozen?_setCell]; exact h.f0
  · rw [e]; simp only [World.frozen?_setCell]; exact h.f1
  · rw [e]; simp only [World.frozen?_setCell]; exact h.f2
  · rw [e]; simp only [World.frozen?_setCell]; exact h.f3
  · rw [e]; simp only [World.frozen?_setCell]; exact h.f4
  · rw [e]; simp only [World.frozen?_setCell]; exact h.f5
  · rw [e]
    exact ((((((Only.refl (fun k => k = b) W).setAt _).setAt _).setAt _).setAt _).setAt _).setAt _

/-! ### The two ways down -/

theorem sideL_any (v0 v1 v2 v3 v4 v5 : Int) (w : World) :
    Calls Try.prog 33 #[.agg #[.int .i64 v0, .int .i64 v1, .int .i64 v2, .int .i64 v3, .int .i64 v4, .int .i64 v5]] w fun e w' => e = .returned (.int .i64 v2) ∧ Below w.heap.size w w' := by
  go_enter Try.func33, Try.ntmps33
  go_wp2
  go_ret
  exact ⟨rfl, (Below.refl _ _).alloc (Nat.le_refl _) _⟩
theorem sideR_any (v0 v1 v2 v3 v4 v5 : Int) (w : World) :
    Calls Try.prog 34 #[.agg #[.int .i64 v0, .int .i64 v1, .int .i64 v2, .int .i64 v3, .int .i64 v4, .int .i64 v5]] w fun e w' => e = .returned (.int .i64 v3) ∧ Below w.heap.size w w' := by
  go_enter Try.func34, Try.ntmps34
  go_wp2
  go_ret
  exact ⟨rfl, (Below.refl _ _).alloc (Nat.le_refl _) _⟩


set_option maxRecDepth 100000 in
set_option maxHeartbeats 6400000 in
theorem farL_any {ao : Option Addr} {L : List It} (t : Int) (w : World) (hg : Gets ao L w) (q0 q1 : Int) (is : Bool) (hv : (farL L 2 t).getD (0, 0) = (q0, q1)) (his : (farL L 2 t).isSome = is) :
    Calls Try.prog 32 #[.pointer ao, .int .i64 t, .func (.func 33) #[] #[]] w fun e w' => e = .returned (.tuple #[.agg #[.int .i64 q0, .int .i64 q1], .bool is]) ∧ Below w.heap.size w w' := by
  obtain ⟨B, m0, m1, m2, m3, m4, m5, hat, cg⟩ := hg.at (Below.refl _ _) t
  have ba : ∀ o, Below w.heap.size w (w.alloc o) := fun o => (Below.refl _ _).alloc (Nat.le_refl _) _
  have hBis : B = is := by
    cases B
    · rw [← his, farL_no hat.no]; rfl
    · rw [← his, farL_yes hat.yes.1]; rfl
  subst hBis
  have hst : (farL L 2 t).getD (0, 0) = (farL L 2 t).getD (m0, m1) := by
    cases B
    · have hk := hat.no
      obtain ⟨_, a0, a1, _⟩ := hat
      rw [nv_no hk] at a0 a1
      rw [← a0, ← a1]
    · rw [farL_yes hat.yes.1]; rfl
  have HST := Lib.hid hst
  have HAT := Lib.hid hat
  have HG := Lib.hid hg
  have HV := Lib.hid hv
  clear hat hv his hg hst
  go_enter Try.func32, Try.ntmps32
  go_wp2_with (go_at_call 29; ((with_reducible refine (cg _ (ba _)).mono ?_); clear cg; rintro e w1 ⟨rfl, hb1⟩; have hT1 := (Two.new w 0 0 _).keep hb1; have HT1 := Lib.hid hT1; have hb := (ba _).trans (hb1.mono (ba _).size); have hsz : w.heap.size < w1.heap.size := by have := hb1.size; simp at this; omega))
  have hN1 := Six.new w1 m0 m1 m2 m3 m4 m5 56
  go_loopw [1, 10, 11] (fun tt n ok wr => ∃ (id : Int) (b : Nat) (B' : Bool) (k0 k1 k2 k3 k4 k5 l0 l1 l2 l3 l4 l5 : Int), tt = .int .i64 id ∧ n = .pointer (some ⟨b, 0, none⟩) ∧ ok = .bool B' ∧ w1.heap.size < b ∧ NodeAt wr b k0 k1 k2 k3 k4 k5 ∧ AtN L id B' k0 k1 k2 k3 k4 k5 ∧ Six wr w1.heap.size l0 l1 l2 l3 l4 l5 ∧ Two wr w.heap.size 0 0 ∧ (farL L 2 t).getD (0, 0) = (farL L 2 id).getD (l0, l1) ∧ Below w.heap.size w wr) (fun tt _ _ _ => (intOf tt).toNat)
  case atStart =>
    refine ⟨t, _, B, m0, m1, m2, m3, m4, m5, m0, m1, m2, m3, m4, m5, rfl, rfl, rfl, ?_, (by simpa using (Six.new (w1.alloc (.cells #[.int .i64 m0, .int .i64 m1, .int .i64 m2, .int .i64 m3, .int .i64 m4, .int .i64 m5] 56)) m0 m1 m2 m3 m4 m5 56).toNodeAt), HAT.out, hN1.past _, (HT1.out.past _).past _, HST.out, (hb.alloc hb.size _).alloc (Nat.le_trans hb.size (by simp)) _⟩
    simp
  case round =>
    clear hb HAT HT1 HST hN1 hb1 hT1 ba
    obtain ⟨id, b, B', k0, k1, k2, k3, k4, k5, l0, l1, l2, l3, l4, l5, rfl, rfl, rfl, hlb, hN, hat, hS, hT, hge, hb⟩ := hrel
    cases B'
    · have HGE := Lib.hid hge
      have HNO := Lib.hid hat.no
      obtain ⟨Wf, hWf, r0, r1, rb⟩ := hT.put l0 l1
      obtain ⟨z0, z1, f0, f1⟩ := hT
      have HWF := Lib.hid hWf
      obtain ⟨s0, s1, s2, s3, s4, s5⟩ := hS.toNodeAt
      clear hat hN hge hWf hS
      go_wp2_with (fail)
      rw [← HWF.out]
      have hv := HV.out
      rw [HGE.out, farL_no HNO.out] at hv
      cases hv
      clear HWF z0 z1 f0 f1
      refine bodyPost_ret (v := .tuple #[.agg #[.int .i64 q0, .int .i64 q1], .bool B]) (by simp [results, Try.results32, go_sem, r0, r1]) rfl ⟨rfl, hb.trans rb⟩
    · obtain ⟨hk, e0, e1, e2, e3, e4, e5⟩ := hat.yes
      have hdl := fun c => downL_lt (c := c) hk
      have HDL := Lib.hid hdl
      obtain ⟨d, hd⟩ : ∃ d, downL L id k2 = d := ⟨_, rfl⟩
      obtain ⟨B2, j0, j1, j2, j3, j4, j5, hat2, cg⟩ := HG.out.at hb d
      have HAT2 := Lib.hid hat2
      have HR := Lib.hid (show (farL L 2 t).getD (0, 0) = (farL L 2 d).getD (k0, k1) by rw [hge, farL_yes hk, e2, hd, e0, e1]; rfl)
      have HLT := Lib.hid (show d.toNat < id.toNat by rw [← hd]; exact HDL.out _)
      have cl := fun W => lower_any id k2 d W hd
      have cf := fun W => sideL_any k0 k1 k2 k3 k4 k5 W
      have hne : b ≠ w1.heap.size := by omega
      have hne' : w1.heap.size ≠ b := by omega
      obtain ⟨Wl, hWl, hS2, ho, hbl⟩ := hS.put6 k0 k1 k2 k3 k4 k5
      have HN2 := Lib.hid (hN.only ho hne)
      have HS2 := Lib.hid hS2
      have HT2 := Lib.hid (hT.only ho (by show ¬ w.heap.size = w1.heap.size; omega))
      have hbL := hb.trans (hbl.mono (Nat.le_of_lt hsz))
      obtain ⟨c0, c1, c2, c3, c4, c5⟩ := hN
      obtain ⟨⟨s0, s1, s2, s3, s4, s5⟩, g0, g1, g2, g3, g4, g5⟩ := hS
      have HWL := Lib.hid hWl
      clear hk e0 e1 e2 e3 e4 e5 hd hat2 hat hge hS2 ho hbl hWl hdl hT
      go_upto_region 6 with (fail)
      rw [← HWL.out]
      clear c0 c1 c2 c3 c4 c5 s0 s1 s2 s3 s4 s5 g0 g1 g2 g3 g4 g5
      obtain ⟨c0, c1, c2, c3, c4, c5⟩ := HN2.out
      go_wp2_with (first
        | (go_at_call 33; ((with_reducible refine (cf _).mono ?_); clear cf; rintro e w2 ⟨rfl, hb2⟩; obtain ⟨d0, d1, d2, d3, d4, d5⟩ := HN2.out.keep hb2; clear c0 c1 c2 c3 c4 c5; have hbM := hbL.trans (hb2.mono hbL.size)))
        | (go_at_call 31; ((with_reducible refine (cl _).mono ?_); clear cl; rintro e w3 ⟨rfl, rfl⟩))
        | (go_at_call 29; ((with_reducible refine (cg _ (hbM.alloc hbM.size _)).mono ?_); clear cg; rintro e w4 ⟨rfl, hb4⟩; have s4 := (Six.new w2 k0 k1 k2 k3 k4 k5 _).keep hb4; obtain ⟨Wf, hWf, hNf, rb⟩ := s4.put j0 j1 j2 j3 j4 j5; have HS := Lib.hid (And.intro hNf rb); clear hNf rb; have HS4 := Lib.hid (((HS2.out.keep hb2).past _).keep hb4); have HT4 := Lib.hid (((HT2.out.keep hb2).past _).keep hb4); have hl4 := (HS2.out.keep hb2).lt; have ht4 := (HT2.out.keep hb2).lt; obtain ⟨⟨z0, z1, z2, z3, z4, z5⟩, f0, f1, f2, f3, f4, f5⟩ := s4; have HWF := Lib.hid hWf; clear hWf)))
      go_roundw
      case rel =>
        rw [← HWF.out]
        exact ⟨d, _, B2, j0, j1, j2, j3, j4, j5, k0, k1, k2, k3, k4, k5, rfl, rfl, rfl, hl4, HS.out.1, HAT2.out, HS4.out.under HS.out.2 hl4, HT4.out.under HS.out.2 ht4, HR.out, round_below hbM hb4 HS.out.2⟩
      case measure => exact HLT.out

set_option maxRecDepth 100000 in
set_option maxHeartbeats 6400000 in
theorem farR_any {ao : Option Addr} {L : List It} (t : Int) (w : World) (hg : Gets ao L w) (q0 q1 : Int) (is : Bool) (hv : (farL L 3 t).getD (0, 0) = (q0, q1)) (his : (farL L 3 t).isSome = is) :
    Calls Try.prog 32 #[.pointer ao, .int .i64 t, .func (.func 34) #[] #[]] w fun e w' => e = .returned (.tuple #[.agg #[.int .i64 q0, .int .i64 q1], .bool is]) ∧ Below w.heap.size w w' := by
  obtain ⟨B, m0, m1, m2, m3, m4, m5, hat, cg⟩ := hg.at (Below.refl _ _) t
  have ba : ∀ o, Below w.heap.size w (w.alloc o) := fun o => (Below.refl _ _).alloc (Nat.le_refl _) _
  have hBis : B = is := by
    cases B
    · rw [← his, farL_no hat.no]; rfl
    · rw [← his, farL_yes hat.yes.1]; rfl
  subst hBis
  have hst : (farL L 3 t).getD (0, 0) = (farL L 3 t).getD (m0, m1) := by
    cases B
    · have hk := hat.no
      obtain ⟨_, a0, a1, _⟩ := hat
      rw [nv_no hk] at a0 a1
      rw [← a0, ← a1]
    · rw [farL_yes hat.yes.1]; rfl
  have HST := Lib.hid hst
  have HAT := Lib.hid hat
  have HG := Lib.hid hg
  have HV := Lib.hid hv
  clear hat hv his hg hst
  go_enter Try.func32, Try.ntmps32
  go_wp2_with (go_at_call 29; ((with_reducible refine (cg _ (ba _)).mono ?_); clear cg; rintro e w1 ⟨rfl, hb1⟩; have hT1 := (Two.new w 0 0 _).keep hb1; have HT1 := Lib.hid hT1; have hb := (ba _).trans (hb1.mono (ba _).size); have hsz : w.heap.size < w1.heap.size := by have := hb1.size; simp at this; omega))
  have hN1 := Six.new w1 m0 m1 m2 m3 m4 m5 56
  go_loopw [1, 10, 11] (fun tt n ok wr => ∃ (id : Int) (b : Nat) (B' : Bool) (k0 k1 k2 k3 k4 k5 l0 l1 l2 l3 l4 l5 : Int), tt = .int .i64 id ∧ n = .pointer (some ⟨b, 0, none⟩) ∧ ok = .bool B' ∧ w1.heap.size < b ∧ NodeAt wr b k0 k1 k2 k3 k4 k5 ∧ AtN L id B' k0 k1 k2 k3 k4 k5 ∧ Six wr w1.heap.size l0 l1 l2 l3 l4 l5 ∧ Two wr w.heap.size 0 0 ∧ (farL L 3 t).getD (0, 0) = (farL L 3 id).getD (l0, l1) ∧ Below w.heap.size w wr) (fun tt _ _ _ => (intOf tt).toNat)
  case atStart =>
    refine ⟨t, _, B, m0, m1, m2, m3, m4, m5, m0, m1, m2, m3, m4, m5, rfl, rfl, rfl, ?_, (by simpa using (Six.new (w1.alloc (.cells #[.int .i64 m0, .int .i64 m1, .int .i64 m2, .int .i64 m3, .int .i64 m4, .int .i64 m5] 56)) m0 m1 m2 m3 m4 m5 56).toNodeAt), HAT.out, hN1.past _, (HT1.out.past _).past _, HST.out, (hb.alloc hb.size _).alloc (Nat.le_trans hb.size (by simp)) _⟩
    simp
  case round =>
    clear hb HAT HT1 HST hN1 hb1 hT1 ba
    obtain ⟨id, b, B', k0, k1, k2, k3, k4, k5, l0, l1, l2, l3, l4, l5, rfl, rfl, rfl, hlb, hN, hat, hS, hT, hge, hb⟩ := hrel
    cases B'
    · have HGE := Lib.hid hge
      have HNO := Lib.hid hat.no
      obtain ⟨Wf, hWf, r0, r1, rb⟩ := hT.put l0 l1
      obtain ⟨z0, z1, f0, f1⟩ := hT
      have HWF := Lib.hid hWf
      obtain ⟨s0, s1, s2, s3, s4, s5⟩ := hS.toNodeAt
      clear hat hN hge hWf hS
      go_wp2_with (fail)
      rw [← HWF.out]
      have hv := HV.out
      rw [HGE.out, farL_no HNO.out] at hv
      cases hv
      clear HWF z0 z1 f0 f1
      refine bodyPost_ret (v := .tuple #[.agg #[.int .i64 q0, .int .i64 q1], .bool B]) (by simp [results, Try.results32, go_sem, r0, r1]) rfl ⟨rfl, hb.trans rb⟩
    · obtain ⟨hk, e0, e1, e2, e3, e4, e5⟩ := hat.yes
      have hdl := fun c => downL_lt (c := c) hk
      have HDL := Lib.hid hdl
      obtain ⟨d, hd⟩ : ∃ d, downL L id k3 = d := ⟨_, rfl⟩
      obtain ⟨B2, j0, j1, j2, j3, j4, j5, hat2, cg⟩ := HG.out.at hb d
      have HAT2 := Lib.hid hat2
      have HR := Lib.hid (show (farL L 3 t).getD (0, 0) = (farL L 3 d).getD (k0, k1) by rw [hge, farL_yes hk, e3, hd, e0, e1]; rfl)
      have HLT := Lib.hid (show d.toNat < id.toNat by rw [← hd]; exact HDL.out _)
      have cl := fun W => lower_any id k3 d W hd
      have cf := fun W => sideR_any k0 k1 k2 k3 k4 k5 W
      have hne : b ≠ w1.heap.size := by omega
      have hne' : w1.heap.size ≠ b := by omega
      obtain ⟨Wl, hWl, hS2, ho, hbl⟩ := hS.put6 k0 k1 k2 k3 k4 k5
      have HN2 := Lib.hid (hN.only ho hne)
      have HS2 := Lib.hid hS2
      have HT2 := Lib.hid (hT.only ho (by show ¬ w.heap.size = w1.heap.size; omega))
      have hbL := hb.trans (hbl.mono (Nat.le_of_lt hsz))
      obtain ⟨c0, c1, c2, c3, c4, c5⟩ := hN
      obtain ⟨⟨s0, s1, s2, s3, s4, s5⟩, g0, g1, g2, g3, g4, g5⟩ := hS
      have HWL := Lib.hid hWl
      clear hk e0 e1 e2 e3 e4 e5 hd hat2 hat hge hS2 ho hbl hWl hdl hT
      go_upto_region 6 with (fail)
      rw [← HWL.out]
      clear c0 c1 c2 c3 c4 c5 s0 s1 s2 s3 s4 s5 g0 g1 g2 g3 g4 g5
      obtain ⟨c0, c1, c2, c3, c4, c5⟩ := HN2.out
      go_wp2_with (first
        | (go_at_call 34; ((with_reducible refine (cf _).mono ?_); clear cf; rintro e w2 ⟨rfl, hb2⟩; obtain ⟨d0, d1, d2, d3, d4, d5⟩ := HN2.out.keep hb2; clear c0 c1 c2 c3 c4 c5; have hbM := hbL.trans (hb2.mono hbL.size)))
        | (go_at_call 31; ((with_reducible refine (cl _).mono ?_); clear cl; rintro e w3 ⟨rfl, rfl⟩))
        | (go_at_call 29; ((with_reducible refine (cg _ (hbM.alloc hbM.size _)).mono ?_); clear cg; rintro e w4 ⟨rfl, hb4⟩; have s4 := (Six.new w2 k0 k1 k2 k3 k4 k5 _).keep hb4; obtain ⟨Wf, hWf, hNf, rb⟩ := s4.put j0 j1 j2 j3 j4 j5; have HS := Lib.hid (And.intro hNf rb); clear hNf rb; have HS4 := Lib.hid (((HS2.out.keep hb2).past _).keep hb4); have HT4 := Lib.hid (((HT2.out.keep hb2).past _).keep hb4); have hl4 := (HS2.out.keep hb2).lt; have ht4 := (HT2.out.keep hb2).lt; obtain ⟨⟨z0, z1, z2, z3, z4, z5⟩, f0, f1, f2, f3, f4, f5⟩ := s4; have HWF := Lib.hid hWf; clear hWf)))
      go_roundw
      case rel =>
        rw [← HWF.out]
        exact ⟨d, _, B2, j0, j1, j2, j3, j4, j5, k0, k1, k2, k3, k4, k5, rfl, rfl, rfl, hl4, HS.out.1, HAT2.out, HS4.out.under HS.out.2 hl4, HT4.out.under HS.out.2 ht4, HR.out, round_below hbM hb4 HS.out.2⟩
      case measure => exact HLT.out

set_option maxRecDepth 100000 in
set_option maxHeartbeats 1600000 in
theorem lmin_any {ao : Option Addr} {L : List It} (t : Int) (w : World) (hg : Gets ao L w) (q0 q1 : Int) (is : Bool) (hv : (farL L 2 t).getD (0, 0) = (q0, q1)) (his : (farL L 2 t).isSome = is) :
    Calls Try.prog 17 #[.pointer ao, .int .i64 t] w fun e w' => e = .returned (.tuple #[.agg #[.int .i64 q0, .int .i64 q1], .bool is]) ∧ Below w.heap.size w w' := by
  have ba : ∀ o, Below w.heap.size w (w.alloc o) := fun o => (Below.refl _ _).alloc (Nat.le_refl _) _
  have cf := fun W hB => farL_any t W (hg.later hB) q0 q1 is hv his
  clear hg hv his
  go_enter Try.func17, Try.ntmps17
  go_wp2_with (go_at_call 32; ((with_reducible refine (cf _ (ba _)).mono ?_); clear cf; rintro e w1 ⟨rfl, hb1⟩; have hT := (Two.new w 0 0 _).keep hb1; obtain ⟨Wf, hWf, r0, r1, rb⟩ := hT.put q0 q1; obtain ⟨z0, z1, f0, f1⟩ := hT; have hb := (ba _).trans (hb1.mono (ba _).size); clear ba))
  rw [← hWf]
  clear hWf z0 z1 f0 f1
  refine bodyPost_ret (v := .tuple #[.agg #[.int .i64 q0, .int .i64 q1], .bool is]) (by simp [results, Try.results17, go_sem, r0, r1]) rfl ⟨rfl, hb.trans rb⟩

set_option maxRecDepth 100000 in
set_option maxHeartbeats 1600000 in
theorem lmax_any {ao : Option Addr} {L : List It} (t : Int) (w : World) (hg : Gets ao L w) (q0 q1 : Int) (is : Bool) (hv : (farL L 3 t).getD (0, 0) = (q0, q1)) (his : (farL L 3 t).isSome = is) :
    Calls Try.prog 18 #[.pointer ao, .int .i64 t] w fun e w' => e = .returned (.tuple #[.agg #[.int .i64 q0, .int .i64 q1], .bool is]) ∧ Below w.heap.size w w' := by
  have ba : ∀ o, Below w.heap.size w (w.alloc o) := fun o => (Below.refl _ _).alloc (Nat.le_refl _) _
  have cf := fun W hB => farR_any t W (hg.later hB) q0 q1 is hv his
  clear hg hv his
  go_enter Try.func18, Try.ntmps18
  go_wp2_with (go_at_call 32; ((with_reducible refine (cf _ (ba _)).mono ?_); clear cf; rintro e w1 ⟨rfl, hb1⟩; have hT := (Two.new w 0 0 _).keep hb1; obtain ⟨Wf, hWf, r0, r1, rb⟩ := hT.put q0 q1; obtain ⟨z0, z1, f0, f1⟩ := hT; have hb := (ba _).trans (hb1.mono (ba _).size); clear ba))
  rw [← hWf]
  clear hWf z0 z1 f0 f1
  refine bodyPost_ret (v := .tuple #[.agg #[.int .i64 q0, .int .i64 q1], .bool is]) (by simp [results, Try.results18, go_sem, r0, r1]) rfl ⟨rfl, hb.trans rb⟩
end Go.Proofs.Ytiankcjmclpciaa
