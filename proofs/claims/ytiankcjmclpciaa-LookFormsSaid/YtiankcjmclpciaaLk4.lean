/- Contract of look.Nth. -/
import Derived.Test.YtiankcjmclpciaaLk2
namespace Go.Proofs.Ytiankcjmclpciaa
open Go.RowKit
set_option linter.all false

/-- A block of two cells that can be written. -/
structure Two (W : World) (b : Nat) (m0 m1 : Int) : Prop where
  c0 : W.cell? ⟨b, 0, none⟩ = some (.int .i64 m0)
  c1 : W.cell? ⟨b, 1, none⟩ = some (.int .i64 m1)
  f0 : W.frozen? ⟨b, 0, none⟩ = false
  f1 : W.frozen? ⟨b, 1, none⟩ = false
theorem Two.lt {W : World} {b : Nat} {m0 m1 : Int} (h : Two W b m0 m1) : b < W.heap.size := World.block_lt_of_cell? W _ h.c0
theorem Two.keep {W W' : World} {b : Nat} {m0 m1 : Int} (h : Two W b m0 m1) (hb : Below W.heap.size W W') : Two W' b m0 m1 := by
  have hl := h.lt
  have c : ∀ {j v}, W.cell? ⟨b, j, none⟩ = some v → W'.cell? ⟨b, j, none⟩ = some v := fun {j v} hc => (hb.cell (p := ⟨b, j, none⟩) hl).trans hc
  have f : ∀ {j}, W.frozen? ⟨b, j, none⟩ = false → W'.frozen? ⟨b, j, none⟩ = false := fun {j} hf => (World.frozen?_of_block (a := ⟨b, j, none⟩) (hb.block b hl)).trans hf
  exact ⟨c h.c0, c h.c1, f h.f0, f h.f1⟩
theorem Two.new (w : World) (m0 m1 : Int) (t : TypeId) : Two (w.alloc (.cells #[.int .i64 m0, .int .i64 m1] t)) w.heap.size m0 m1 := by
  constructor <;> simp
theorem Two.past {W : World} {b : Nat} {m0 m1 : Int} (h : Two W b m0 m1) (o : Obj) : Two (W.alloc o) b m0 m1 := h.keep ((Below.refl _ _).alloc (Nat.le_refl _) _)
theorem Two.put {W : World} {b : Nat} {m0 m1 : Int} (h : Two W b m0 m1) (u0 u1 : Int) :
    ∃ Wf, Wf = ((W.setCell ⟨b, 0, none⟩ (.int .i64 u0)).setCell ⟨b, 1, none⟩ (.int .i64 u1)) ∧ Wf.cell? ⟨b, 0, none⟩ = some (.int .i64 u0) ∧ Wf.cell? ⟨b, 1, none⟩ = some (.int .i64 u1) ∧ Below b W Wf :=
  ⟨_, rfl, keepc (World.cell?_setCell_same _ _ _ h.c0) (by decide), World.cell?_setCell_same _ _ _ (keepc h.c1 (by decide)),
    Below.setCell (Below.setCell (Below.refl _ _) (Nat.le_refl b) _) (Nat.le_refl b) _⟩

theorem Two.under {W W' : World} {b n : Nat} {m0 m1 : Int} (h : Two W b m0 m1) (hb : Below n W W') (hn : b < n) : Two W' b m0 m1 := by
  have c : ∀ {j v}, W.cell? ⟨b, j, none⟩ = some v → W'.cell? ⟨b, j, none⟩ = some v := fun {j v} hc => (hb.cell (p := ⟨b, j, none⟩) hn).trans hc
  have f : ∀ {j}, W.frozen? ⟨b, j, none⟩ = false → W'.frozen? ⟨b, j, none⟩ = false := fun {j} hf => (World.frozen?_of_block (a := ⟨b, j, none⟩) (hb.block b hn)).trans hf
  exact ⟨c h.c0, c h.c1, f h.f0, f h.f1⟩

/-- What Nth tells. -/
def nthL (L : List It) (t i : Int) : Option Pr := if i < 0 ∨ nv L t 4 ≤ i then none else nthG L t i 0
theorem nthL_tree {L : List It} {t : Int} {l : List Pr} (h : Tree L t l) (hl : l.length ≤ 10000) (i : Int) : nthL L t i = if i < 0 then none else l[i.toNat]? := by
  unfold nthL
  rw [h.size.1]
  by_cases h0 : i < 0
  · rw [if_pos (.inl h0), if_pos h0]
  · rw [if_neg h0]
    by_cases h1 : (l.length : Int) ≤ i
    · rw [if_pos (.inr h1), List.getElem?_eq_none (by omega)]
    · rw [if_neg (by omega), ← nth_tree h 0 i.toNat (by omega) (by omega)]
      congr 1
      omega

set_option maxRecDepth 100000 in
set_option maxHeartbeats 6400000 in
theorem lnth_any {ao : Option Addr} {L : List It} (t i : Int) (w : World) (hg : Gets ao L w) (q0 q1 : Int) (is : Bool) (hv : (nthL L t i).getD (0, 0) = (q0, q1)) (his : (nthL L t i).isSome = is) :
    Calls Try.prog 19 #[.pointer ao, .int .i64 t, .int .i64 i] w fun e w' => e = .returned (.tuple #[.agg #[.int .i64 q0, .int .i64 q1], .bool is]) ∧ Below w.heap.size w w' := by
  obtain ⟨B, m0, m1, m2, m3, m4, m5, hat, cg⟩ := hg.at (Below.refl _ _) t
  obtain ⟨sz0, hsz0⟩ : ∃ z, nv L t 4 = z := ⟨_, rfl⟩
  have cs0 := fun W hB => size_any t sz0 W (hg.later hB) hsz0
  have ba : ∀ o, Below w.heap.size w (w.alloc o) := fun o => (Below.refl _ _).alloc (Nat.le_refl _) _
  by_cases hi0 : i < 0
  · have e : nthL L t i = none := if_pos (.inl hi0)
    rw [e] at hv his
    cases hv
    subst his
    clear hat cg e hsz0 cs0 hg ba
    go_enter Try.func19, Try.ntmps19
    go_wp2_with (fail)
    refine bodyPost_ret (v := .tuple #[.agg #[.int .i64 0, .int .i64 0], .bool false]) (by simp [results, Try.results19, go_sem]) rfl ⟨rfl, ?_⟩
    exact (Below.refl _ _).alloc (Nat.le_refl _) _
  · by_cases hi1 : sz0 ≤ i
    · have e : nthL L t i = none := if_pos (.inr (by omega))
      rw [e] at hv his
      cases hv
      subst his
      clear hat cg e hsz0 hg
      go_enter Try.func19, Try.ntmps19
      go_wp2_with (go_at_call 14; ((with_reducible refine (cs0 _ (ba _)).mono ?_); clear cs0; rintro ee wz ⟨rfl, hbz⟩; have hT := (Two.new w 0 0 _).keep hbz; obtain ⟨Wf, hWf, r0, r1, rb⟩ := hT.put 0 0; obtain ⟨z0, z1, f0, f1⟩ := hT; have b1 := (ba _).trans (hbz.mono (ba _).size); clear ba hbz))
      rw [← hWf]
      clear hWf z0 z1 f0 f1
      refine bodyPost_ret (v := .tuple #[.agg #[.int .i64 0, .int .i64 0], .bool false]) (by simp [results, Try.results19, go_sem, r0, r1]) rfl ⟨rfl, b1.trans rb⟩
    · have hi1' : ¬ sz0 ≤ i := hi1
      have e : nthL L t i = nthG L t i 0 := if_neg (by omega)
      rw [e] at hv his
      have HAT := Lib.hid hat
      have HG := Lib.hid hg
      have HV := Lib.hid (And.intro hv his)
      clear hat hv his e hsz0 hg
      go_enter Try.func19, Try.ntmps19
      go_wp2_with (first
        | (go_at_call 14; ((with_reducible refine (cs0 _ (ba _)).mono ?_); clear cs0; rintro ee wz ⟨rfl, hbz⟩; have hT0 := Lib.hid ((Two.new w 0 0 _).keep hbz); have b0 := (ba _).trans (hbz.mono (ba _).size); clear ba hbz))
        | (go_at_call 29; ((with_reducible refine (cg _ b0).mono ?_); clear cg; rintro ee w1 ⟨rfl, hb'⟩; have hT1 := Lib.hid (hT0.out.keep hb'); have hb := b0.trans (hb'.mono b0.size))))
      go_loopw [1, 8, 9, 10] (fun tt ps n ok wr => ∃ (id pa : Int) (b : Nat) (B : Bool) (m0 m1 m2 m3 m4 m5 : Int), tt = .int .i64 id ∧ ps = .int .i64 pa ∧ n = .pointer (some ⟨b, 0, none⟩) ∧ ok = .bool B ∧ w.heap.size ≤ b ∧ NodeAt wr b m0 m1 m2 m3 m4 m5 ∧ AtN L id B m0 m1 m2 m3 m4 m5 ∧ nthG L id i pa = nthG L t i 0 ∧ Two wr w.heap.size 0 0 ∧ Below w.heap.size w wr) (fun tt _ _ _ _ => (intOf tt).toNat)
      case atStart => exact ⟨t, 0, _, B, m0, m1, m2, m3, m4, m5, rfl, rfl, rfl, rfl, hb.size, (Six.new w1 m0 m1 m2 m3 m4 m5 _).toNodeAt, HAT.out, rfl, hT1.out.past _, hb.alloc hb.size _⟩
      case round =>
        clear hb HAT b0 hT0 hT1 hb'
        obtain ⟨id, pa, b, B', k0, k1, k2, k3, k4, k5, rfl, rfl, rfl, rfl, hlb, hN, hat, hge, hT, hb⟩ := hrel
        cases B'
        · have HGE := Lib.hid hge
          have HNO := Lib.hid hat.no
          obtain ⟨Wf, hWf, r0, r1, rb⟩ := hT.put 0 0
          obtain ⟨z0, z1, f0, f1⟩ := hT
          have HWF := Lib.hid hWf
          clear hat hN hge hWf
          go_wp2_with (fail)
          rw [← HWF.out]
          obtain ⟨hv, rfl⟩ := HV.out
          have e : nthG L t i 0 = none := by rw [← HGE.out]; exact nthG_no HNO.out
          rw [e] at hv ⊢
          cases hv
          clear HWF z0 z1 f0 f1
          refine bodyPost_ret (v := .tuple #[.agg #[.int .i64 0, .int .i64 0], .bool false]) (by simp [results, Try.results19, go_sem, r0, r1]) rfl ⟨rfl, hb.trans rb⟩
        · obtain ⟨hk, e0, e1, e2, e3, e4, e5⟩ := hat.yes
          have hdl := fun c => downL_lt (c := c) hk
          have HDL := Lib.hid hdl
          have HGE := Lib.hid hge
          have HN := Lib.hid hN
          have HT := Lib.hid hT
          obtain ⟨dl, hdl'⟩ : ∃ d, downL L id k2 = d := ⟨_, rfl⟩
          obtain ⟨sz, hsz⟩ : ∃ z, nv L dl 4 = z := ⟨_, rfl⟩
          obtain ⟨ah, hah⟩ : ∃ z, plusW pa sz = z := ⟨_, rfl⟩
          have hahead : aheadL L id pa = ah := by unfold aheadL; rw [e2, hdl', hsz, hah]
          have cl1 := fun W => lower_any id k2 dl W hdl'
          have cs := fun W hB => size_any dl sz W (HG.out.later hB) hsz
          have cp1 := fun W => plus_any pa sz ah W hah
          clear hge hdl hat hah hsz hT
          by_cases hkey : ah = i
          · have hkey' : (ah == i) = true := by simpa using hkey
            have HR := Lib.hid (show nthG L id i pa = some (k0, k1) by rw [nthG_here hk (hahead.trans hkey), e0, e1])
            obtain ⟨c0, c1, c2, c3, c4, c5⟩ := hN
            clear hk e0 e1 e2 e3 e4 e5 hkey hahead hdl'
            go_wp2_with (first
              | (go_at_call 31; ((with_reducible refine (cl1 _).mono ?_); clear cl1; rintro e w3 ⟨rfl, rfl⟩))
              | (go_at_call 14; ((with_reducible refine (cs _ hb).mono ?_); clear cs; rintro e wz2 ⟨rfl, hbz⟩; have N2 := Lib.hid (HN.out.keep hbz); have hb1 := hb.trans (hbz.mono hb.size); have hT2 := HT.out.keep hbz; obtain ⟨Wf, hWf, r0, r1, rb⟩ := hT2.put k0 k1; have HWF := Lib.hid hWf; clear hWf; obtain ⟨z0, z1, f0, f1⟩ := hT2; obtain ⟨c0, c1, c2, c3, c4, c5⟩ := N2.out))
              | (go_at_call 35; ((with_reducible refine (cp1 _).mono ?_); clear cp1; rintro e w3 ⟨rfl, rfl⟩)))
            rw [← HWF.out]
            obtain ⟨hv, rfl⟩ := HV.out
            rw [← HGE.out, HR.out] at hv ⊢
            cases hv
            clear HWF z0 z1 f0 f1
            refine bodyPost_ret (v := .tuple #[.agg #[.int .i64 q0, .int .i64 q1], .bool true]) (by simp [results, Try.results19, go_sem, r0, r1]) rfl ⟨rfl, hb1.trans rb⟩
          · have hkey' : (ah == i) = false := by simpa using hkey
            by_cases hks : i < ah
            · have hks' : i < ah := hks
              obtain ⟨B2, j0, j1, j2, j3, j4, j5, hat2, cg⟩ := HG.out.at hb dl
              have HAT2 := Lib.hid hat2
              have HR := Lib.hid (show nthG L dl i pa = nthG L t i 0 by rw [← HGE.out, nthG_left hk (by omega), e2, hdl'])
              have HLT := Lib.hid (show dl.toNat < id.toNat by rw [← hdl']; exact HDL.out _)
              obtain ⟨c0, c1, c2, c3, c4, c5⟩ := hN
              clear hk e0 e1 e2 e3 e4 e5 hkey hdl' hat2 hahead
              go_wp2_with (first
                | (go_at_call 31; ((with_reducible refine (cl1 _).mono ?_); clear cl1; rintro e w3 ⟨rfl, rfl⟩))
                | (go_at_call 14; ((with_reducible refine (cs _ hb).mono ?_); clear cs; rintro e w2 ⟨rfl, hbz⟩; have N2 := Lib.hid (HN.out.keep hbz); have hb1 := hb.trans (hbz.mono hb.size); have HT2 := Lib.hid (HT.out.keep hbz); obtain ⟨c0, c1, c2, c3, c4, c5⟩ := N2.out))
                | (go_at_call 35; ((with_reducible refine (cp1 _).mono ?_); clear cp1; rintro e w3 ⟨rfl, rfl⟩))
                | (go_at_call 29; ((with_reducible refine (cg _ (hb1.alloc hb1.size _)).mono ?_); clear cg; rintro e w4 ⟨rfl, hb4⟩; have s4 := (Six.new w2 k0 k1 k2 k3 k4 k5 _).keep hb4; have HT3 := Lib.hid ((HT2.out.past _).keep hb4); obtain ⟨Wf, hWf, hNf, rb⟩ := s4.put j0 j1 j2 j3 j4 j5; have HS := Lib.hid (And.intro hNf rb); clear hNf rb; obtain ⟨⟨z0, z1, z2, z3, z4, z5⟩, f0, f1, f2, f3, f4, f5⟩ := s4; have HWF := Lib.hid hWf; clear hWf)))
              go_roundw
              case rel =>
                rw [← HWF.out]
                exact ⟨dl, pa, _, B2, j0, j1, j2, j3, j4, j5, rfl, rfl, rfl, rfl, hb1.size, HS.out.1, HAT2.out, HR.out, HT3.out.under HS.out.2 HT2.out.lt, round_below hb1 hb4 HS.out.2⟩
              case measure => exact HLT.out
            · have hks' : ¬ i < ah := hks
              obtain ⟨d, hd⟩ : ∃ d, downL L id k3 = d := ⟨_, rfl⟩
              obtain ⟨p2, hp2⟩ : ∃ d, plusW ah 1 = d := ⟨_, rfl⟩
              have cl2 := fun W => lower_any id k3 d W hd
              have cp2 := fun W => plus_any ah 1 p2 W hp2
              obtain ⟨B2, j0, j1, j2, j3, j4, j5, hat2, cg⟩ := HG.out.at hb d
              have HAT2 := Lib.hid hat2
              have HR := Lib.hid (show nthG L d i p2 = nthG L t i 0 by rw [← HGE.out, nthG_right hk (by omega), e3, hd, hahead, hp2])
              have HLT := Lib.hid (show d.toNat < id.toNat by rw [← hd]; exact HDL.out _)
              obtain ⟨c0, c1, c2, c3, c4, c5⟩ := hN
              clear hk e0 e1 e2 e3 e4 e5 hkey hdl' hat2 hahead hd hp2
              go_wp2_with (first
                | (go_at_call 31; ((with_reducible refine (cl1 _).mono ?_); clear cl1; rintro e w3 ⟨rfl, rfl⟩))
                | (go_at_call 31; ((with_reducible refine (cl2 _).mono ?_); clear cl2; rintro e w3 ⟨rfl, rfl⟩))
                | (go_at_call 14; ((with_reducible refine (cs _ hb).mono ?_); clear cs; rintro e w2 ⟨rfl, hbz⟩; have N2 := Lib.hid (HN.out.keep hbz); have hb1 := hb.trans (hbz.mono hb.size); have HT2 := Lib.hid (HT.out.keep hbz); obtain ⟨c0, c1, c2, c3, c4, c5⟩ := N2.out))
                | (go_at_call 35; ((with_reducible refine (cp1 _).mono ?_); clear cp1; rintro e w3 ⟨rfl, rfl⟩))
                | (go_at_call 35; ((with_reducible refine (cp2 _).mono ?_); clear cp2; rintro e w3 ⟨rfl, rfl⟩))
                | (go_at_call 29; ((with_reducible refine (cg _ (hb1.alloc hb1.size _)).mono ?_); clear cg; rintro e w4 ⟨rfl, hb4⟩; have s4 := (Six.new w2 k0 k1 k2 k3 k4 k5 _).keep hb4; have HT3 := Lib.hid ((HT2.out.past _).keep hb4); obtain ⟨Wf, hWf, hNf, rb⟩ := s4.put j0 j1 j2 j3 j4 j5; have HS := Lib.hid (And.intro hNf rb); clear hNf rb; obtain ⟨⟨z0, z1, z2, z3, z4, z5⟩, f0, f1, f2, f3, f4, f5⟩ := s4; have HWF := Lib.hid hWf; clear hWf)))
              go_roundw
              case rel =>
                rw [← HWF.out]
                exact ⟨d, p2, _, B2, j0, j1, j2, j3, j4, j5, rfl, rfl, rfl, rfl, hb1.size, HS.out.1, HAT2.out, HR.out, HT3.out.under HS.out.2 HT2.out.lt, round_below hb1 hb4 HS.out.2⟩
              case measure => exact HLT.out
end Go.Proofs.Ytiankcjmclpciaa
