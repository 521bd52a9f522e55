/- Contract of look.Get. -/
import Derived.Test.YtmbeaefgakfbnaaLk1
namespace Go.Proofs.Ytmbeaefgakfbnaa
open Go.RowKit
set_option linter.all false

/-- What six cells of a block hold. -/
structure NodeAt (W : World) (b : Nat) (m0 m1 m2 m3 m4 m5 : Int) : Prop where
  c0 : W.cell? ⟨b, 0, none⟩ = some (.int .i64 m0)
  c1 : W.cell? ⟨b, 1, none⟩ = some (.int .i64 m1)
  c2 : W.cell? ⟨b, 2, none⟩ = some (.int .i64 m2)
  c3 : W.cell? ⟨b, 3, none⟩ = some (.int .i64 m3)
  c4 : W.cell? ⟨b, 4, none⟩ = some (.int .i64 m4)
  c5 : W.cell? ⟨b, 5, none⟩ = some (.int .i64 m5)
theorem NodeAt.lt {W : World} {b : Nat} {m0 m1 m2 m3 m4 m5 : Int} (h : NodeAt W b m0 m1 m2 m3 m4 m5) : b < W.heap.size := World.block_lt_of_cell? W _ h.c0
theorem NodeAt.keep {W W' : World} {b : Nat} {m0 m1 m2 m3 m4 m5 : Int} (h : NodeAt W b m0 m1 m2 m3 m4 m5) (hb : Below W.heap.size W W') : NodeAt W' b m0 m1 m2 m3 m4 m5 := by
  have hl := h.lt
  have c : ∀ {j v}, W.cell? ⟨b, j, none⟩ = some v → W'.cell? ⟨b, j, none⟩ = some v := fun {j v} hc => (hb.cell (p := ⟨b, j, none⟩) hl).trans hc
  exact ⟨c h.c0, c h.c1, c h.c2, c h.c3, c h.c4, c h.c5⟩
/-- A new block of six cells, that can be written. -/
structure Six (W : World) (b : Nat) (m0 m1 m2 m3 m4 m5 : Int) : Prop extends NodeAt W b m0 m1 m2 m3 m4 m5 where
  f0 : W.frozen? ⟨b, 0, none⟩ = false
  f1 : W.frozen? ⟨b, 1, none⟩ = false
  f2 : W.frozen? ⟨b, 2, none⟩ = false
  f3 : W.frozen? ⟨b, 3, none⟩ = false
  f4 : W.frozen? ⟨b, 4, none⟩ = false
  f5 : W.frozen? ⟨b, 5, none⟩ = false
theorem Six.keep {W W' : World} {b : Nat} {m0 m1 m2 m3 m4 m5 : Int} (h : Six W b m0 m1 m2 m3 m4 m5) (hb : Below W.heap.size W W') : Six W' b m0 m1 m2 m3 m4 m5 := by
  have hl := h.lt
  have f : ∀ {j}, W.frozen? ⟨b, j, none⟩ = false → W'.frozen? ⟨b, j, none⟩ = false := fun {j} hf => (World.frozen?_of_block (a := ⟨b, j, none⟩) (hb.block b hl)).trans hf
  exact ⟨h.toNodeAt.keep hb, f h.f0, f h.f1, f h.f2, f h.f3, f h.f4, f h.f5⟩
theorem Six.new (w : World) (m0 m1 m2 m3 m4 m5 : Int) (t : TypeId) : Six (w.alloc (.cells #[.int .i64 m0, .int .i64 m1, .int .i64 m2, .int .i64 m3, .int .i64 m4, .int .i64 m5] t)) w.heap.size m0 m1 m2 m3 m4 m5 := by
  refine ⟨⟨?_, ?_, ?_, ?_, ?_, ?_⟩, ?_, ?_, ?_, ?_, ?_, ?_⟩ <;> simp
theorem Six.put {W : World} {b : Nat} {m0 m1 m2 m3 m4 m5 : Int} (h : Six W b m0 m1 m2 m3 m4 m5) (u0 u1 u2 u3 u4 u5 : Int) :
    ∃ Wf, Wf = ((((((W.setCell ⟨b, 0, none⟩ (.int .i64 u0)).setCell ⟨b, 1, none⟩ (.int .i64 u1)).setCell ⟨b, 2, none⟩ (.int .i64 u2)).setCell ⟨b, 3, none⟩ (.int .i64 u3)).setCell ⟨b, 4, none⟩ (.int .i64 u4)).setCell ⟨b, 5, none⟩ (.int .i64 u5)) ∧ NodeAt Wf b u0 u1 u2 u3 u4 u5 ∧ Below b W Wf :=
  ⟨_, rfl, ⟨(keepc (keepc (keepc (keepc (keepc (World.cell?_setCell_same _ _ _ h.c0) (by decide)) (by decide)) (by decide)) (by decide)) (by decide)),
    (keepc (keepc (keepc (keepc (World.cell?_setCell_same _ _ _ (keepc h.c1 (by decide))) (by decide)) (by decide)) (by decide)) (by decide)),
    (keepc (keepc (keepc (World.cell?_setCell_same _ _ _ (keepc (keepc h.c2 (by decide)) (by decide))) (by decide)) (by decide)) (by decide)),
    (keepc (keepc (World.cell?_setCell_same _ _ _ (keepc (keepc (keepc h.c3 (by decide)) (by decide)) (by decide))) (by decide)) (by decide)),
    (keepc (World.cell?_setCell_same _ _ _ (keepc (keepc (keepc (keepc h.c4 (by decide)) (by decide)) (by decide)) (by decide))) (by decide)),
    (World.cell?_setCell_same _ _ _ (keepc (keepc (keepc (keepc (keepc h.c5 (by decide)) (by decide)) (by decide)) (by decide)) (by decide)))⟩,
    (Below.setCell (Below.setCell (Below.setCell (Below.setCell (Below.setCell (Below.setCell (Below.refl _ _) (Nat.le_refl b) _) (Nat.le_refl b) _) (Nat.le_refl b) _) (Nat.le_refl b) _) (Nat.le_refl b) _) (Nat.le_refl b) _)⟩

/-- What stands in the loop's node: the number's node, or none. -/
def AtN (L : List It) (id : Int) (B : Bool) (m0 m1 m2 m3 m4 m5 : Int) : Prop :=
  (kindL L id == 1) = B ∧ nv L id 0 = m0 ∧ nv L id 1 = m1 ∧ nv L id 2 = m2 ∧ nv L id 3 = m3 ∧ nv L id 4 = m4 ∧ nv L id 5 = m5
theorem AtN.mk (L : List It) (id : Int) : AtN L id (kindL L id == 1) (nv L id 0) (nv L id 1) (nv L id 2) (nv L id 3) (nv L id 4) (nv L id 5) := ⟨rfl, rfl, rfl, rfl, rfl, rfl, rfl⟩
theorem AtN.no {L : List It} {id : Int} {m0 m1 m2 m3 m4 m5 : Int} (h : AtN L id false m0 m1 m2 m3 m4 m5) : kindL L id ≠ 1 := by
  have := h.1; simpa using this
theorem AtN.yes {L : List It} {id : Int} {m0 m1 m2 m3 m4 m5 : Int} (h : AtN L id true m0 m1 m2 m3 m4 m5) : kindL L id = 1 ∧ valL L id 0 = m0 ∧ valL L id 1 = m1 ∧ valL L id 2 = m2 ∧ valL L id 3 = m3 ∧ valL L id 4 = m4 ∧ valL L id 5 = m5 := by
  have hk : kindL L id = 1 := by have := h.1; simpa using this
  have := h.2
  rw [nv_yes hk, nv_yes hk, nv_yes hk, nv_yes hk, nv_yes hk, nv_yes hk] at this
  exact ⟨hk, this⟩

theorem round_below {w w2 w4 Wf : World} {o : Obj} (h : Below w.heap.size w w2) (hb4 : Below (w2.alloc o).heap.size (w2.alloc o) w4) (rb : Below w2.heap.size w4 Wf) : Below w.heap.size w Wf := (below_past h hb4).trans (rb.mono h.size)

/-- node.Get under one name for each value. -/
theorem Gets.at {ao : Option Addr} {L : List It} {w W : World} (hg : Gets ao L w) (hb : Below w.heap.size w W) (id : Int) : ∃ (B : Bool) (m0 m1 m2 m3 m4 m5 : Int), AtN L id B m0 m1 m2 m3 m4 m5 ∧
    ∀ W, Below w.heap.size w W → Calls Try.prog 26 #[.pointer ao, .int .i64 id] W fun e w' => e = .returned (.tuple #[.agg #[.int .i64 m0, .int .i64 m1, .int .i64 m2, .int .i64 m3, .int .i64 m4, .int .i64 m5], .bool B]) ∧ Below W.heap.size W w' :=
  ⟨_, _, _, _, _, _, _, AtN.mk L id, fun W hb => hg W hb id⟩

set_option maxRecDepth 100000 in
set_option maxHeartbeats 6400000 in
theorem lget_any {ao : Option Addr} {L : List It} (t key : Int) (w : World) (hg : Gets ao L w) (v : Int) (is : Bool) (hv : (getL L t key).getD 0 = v) (his : (getL L t key).isSome = is) :
    Calls Try.prog 20 #[.pointer ao, .int .i64 t, .int .i64 key] w fun e w' => e = .returned (.tuple #[.int .i64 v, .bool is]) ∧ Below w.heap.size w w' := by
  obtain ⟨B, m0, m1, m2, m3, m4, m5, hat, cg⟩ := hg.at (Below.refl _ _) t
  have HAT := Lib.hid hat
  have HG := Lib.hid hg
  have HV := Lib.hid (And.intro hv his)
  clear hat hv his hg
  go_enter Try.func20, Try.ntmps20
  go_wp2_with (go_at_call 26; ((with_reducible refine (cg _ (Below.refl _ _)).mono ?_); clear cg; rintro e w1 ⟨rfl, hb⟩))
  go_loopw [1, 8, 9] (fun tt n ok wr => ∃ (id : Int) (b : Nat) (B : Bool) (m0 m1 m2 m3 m4 m5 : Int), tt = .int .i64 id ∧ n = .pointer (some ⟨b, 0, none⟩) ∧ ok = .bool B ∧ w.heap.size ≤ b ∧ NodeAt wr b m0 m1 m2 m3 m4 m5 ∧ AtN L id B m0 m1 m2 m3 m4 m5 ∧ getL L id key = getL L t key ∧ Below w.heap.size w wr) (fun tt _ _ _ => (intOf tt).toNat)
  case atStart => exact ⟨t, _, B, m0, m1, m2, m3, m4, m5, rfl, rfl, rfl, hb.size, (Six.new w1 m0 m1 m2 m3 m4 m5 _).toNodeAt, HAT.out, rfl, hb.alloc hb.size _⟩
  case round =>
    clear hb HAT
    obtain ⟨id, b, B', k0, k1, k2, k3, k4, k5, rfl, rfl, rfl, hlb, hN, hat, hge, hb⟩ := hrel
    cases B'
    · have HGE := Lib.hid hge
      have HNO := Lib.hid hat.no
      clear hat hN hge
      go_wp2_with (fail)
      go_ret2
      obtain ⟨rfl, rfl⟩ := HV.out
      have e : getL L t key = none := by rw [← HGE.out]; exact getL_no HNO.out
      rw [e]
      exact ⟨rfl, hb⟩
    · obtain ⟨hk, e0, e1, e2, e3, e4, e5⟩ := hat.yes
      have hdl := fun c => downL_lt (c := c) hk
      have HDL := Lib.hid hdl
      have HGE := Lib.hid hge
      have HN := Lib.hid hN
      clear hge hdl hat
      by_cases hkey : k0 = key
      · have ch := fun W => holds_any k0 k1 k2 k3 k4 k5 key W
        rw [show (k0 == key) = true by simpa using hkey] at ch
        have HR := Lib.hid (show getL L id key = some k1 by rw [getL_here hk (e0.trans hkey), e1])
        obtain ⟨c0, c1, c2, c3, c4, c5⟩ := hN
        clear hk e0 e1 e2 e3 e4 e5 hkey
        go_wp2_with (go_at_call 28; ((with_reducible refine (ch _).mono ?_); clear ch; rintro e w2 ⟨rfl, hb2⟩; obtain ⟨d0, d1, d2, d3, d4, d5⟩ := HN.out.keep hb2; clear c0 c1 c2 c3 c4 c5))
        go_ret2
        obtain ⟨rfl, rfl⟩ := HV.out
        rw [← HGE.out, HR.out]
        exact ⟨rfl, hb.trans (hb2.mono hb.size)⟩
      · have ch := fun W => holds_any k0 k1 k2 k3 k4 k5 key W
        rw [show (k0 == key) = false by simpa using hkey] at ch
        by_cases hks : key < k0
        · have hks' : key < k0 := hks
          obtain ⟨d, hd⟩ : ∃ d, downL L id k2 = d := ⟨_, rfl⟩
          obtain ⟨B2, j0, j1, j2, j3, j4, j5, hat2, cg⟩ := HG.out.at hb d
          have HAT2 := Lib.hid hat2
          have HR := Lib.hid (show getL L d key = getL L t key by rw [← HGE.out, getL_left hk (by omega), e2, hd])
          have HLT := Lib.hid (show d.toNat < id.toNat by rw [← hd]; exact HDL.out _)
          have cl := fun W => lower_any id k2 d W hd
          obtain ⟨c0, c1, c2, c3, c4, c5⟩ := hN
          clear hk e0 e1 e2 e3 e4 e5 hkey hd hat2
          go_wp2_with (first
            | (go_at_call 28; ((with_reducible refine (ch _).mono ?_); clear ch; rintro e w2 ⟨rfl, hb2⟩; obtain ⟨d0, d1, d2, d3, d4, d5⟩ := HN.out.keep hb2; clear c0 c1 c2 c3 c4 c5))
            | (go_at_call 29; ((with_reducible refine (cl _).mono ?_); clear cl; rintro e w3 ⟨rfl, rfl⟩))
            | (go_at_call 26; ((with_reducible refine (cg _ ((hb.trans (hb2.mono hb.size)).alloc (hb.trans (hb2.mono hb.size)).size _)).mono ?_); clear cg; rintro e w4 ⟨rfl, hb4⟩; have s4 := (Six.new w2 k0 k1 k2 k3 k4 k5 _).keep hb4; obtain ⟨Wf, hWf, hNf, rb⟩ := s4.put j0 j1 j2 j3 j4 j5; have HS := Lib.hid (And.intro hNf rb); clear hNf rb; obtain ⟨⟨z0, z1, z2, z3, z4, z5⟩, f0, f1, f2, f3, f4, f5⟩ := s4; have HWF := Lib.hid hWf; clear hWf)))
          go_roundw
          case rel =>
            rw [← HWF.out]
            exact ⟨d, _, B2, j0, j1, j2, j3, j4, j5, rfl, rfl, rfl, (hb.trans (hb2.mono hb.size)).size, HS.out.1, HAT2.out, HR.out, round_below (hb.trans (hb2.mono hb.size)) hb4 HS.out.2⟩
          case measure => exact HLT.out
        · have hks' : ¬ key < k0 := hks
          obtain ⟨d, hd⟩ : ∃ d, downL L id k3 = d := ⟨_, rfl⟩
          obtain ⟨B2, j0, j1, j2, j3, j4, j5, hat2, cg⟩ := HG.out.at hb d
          have HAT2 := Lib.hid hat2
          have HR := Lib.hid (show getL L d key = getL L t key by rw [← HGE.out, getL_right hk (by omega), e3, hd])
          have HLT := Lib.hid (show d.toNat < id.toNat by rw [← hd]; exact HDL.out _)
          have cl := fun W => lower_any id k3 d W hd
          obtain ⟨c0, c1, c2, c3, c4, c5⟩ := hN
          clear hk e0 e1 e2 e3 e4 e5 hkey hd hat2
          go_wp2_with (first
            | (go_at_call 28; ((with_reducible refine (ch _).mono ?_); clear ch; rintro e w2 ⟨rfl, hb2⟩; obtain ⟨d0, d1, d2, d3, d4, d5⟩ := HN.out.keep hb2; clear c0 c1 c2 c3 c4 c5))
            | (go_at_call 29; ((with_reducible refine (cl _).mono ?_); clear cl; rintro e w3 ⟨rfl, rfl⟩))
            | (go_at_call 26; ((with_reducible refine (cg _ ((hb.trans (hb2.mono hb.size)).alloc (hb.trans (hb2.mono hb.size)).size _)).mono ?_); clear cg; rintro e w4 ⟨rfl, hb4⟩; have s4 := (Six.new w2 k0 k1 k2 k3 k4 k5 _).keep hb4; obtain ⟨Wf, hWf, hNf, rb⟩ := s4.put j0 j1 j2 j3 j4 j5; have HS := Lib.hid (And.intro hNf rb); clear hNf rb; obtain ⟨⟨z0, z1, z2, z3, z4, z5⟩, f0, f1, f2, f3, f4, f5⟩ := s4; have HWF := Lib.hid hWf; clear hWf)))
          go_roundw
          case rel =>
            rw [← HWF.out]
            exact ⟨d, _, B2, j0, j1, j2, j3, j4, j5, rfl, rfl, rfl, (hb.trans (hb2.mono hb.size)).size, HS.out.1, HAT2.out, HR.out, round_below (hb.trans (hb2.mono hb.size)) hb4 HS.out.2⟩
          case measure => exact HLT.out
end Go.Proofs.Ytmbeaefgakfbnaa
