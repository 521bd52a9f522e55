/- Contract of look.Below. -/
import Derived.Test.YtiankcjmclpciaaLk2
namespace Go.Proofs.Ytiankcjmclpciaa
open Go.RowKit
set_option linter.all false

set_option maxRecDepth 100000 in
set_option maxHeartbeats 6400000 in
theorem lbelow_any {ao : Option Addr} {L : List It} (t key : Int) (w : World) (hg : Gets ao L w) (v : Int) (hv : belowG L t key 0 = v) :
    Calls Try.prog 20 #[.pointer ao, .int .i64 t, .int .i64 key] w fun e w' => e = .returned (.int .i64 v) ∧ Below w.heap.size w w' := by
  obtain ⟨B, m0, m1, m2, m3, m4, m5, hat, cg⟩ := hg.at (Below.refl _ _) t
  have HAT := Lib.hid hat
  have HG := Lib.hid hg
  have HV := Lib.hid hv
  clear hat hv hg
  go_enter Try.func20, Try.ntmps20
  go_wp2_with (go_at_call 29; ((with_reducible refine (cg _ (Below.refl _ _)).mono ?_); clear cg; rintro e w1 ⟨rfl, hb⟩))
  go_loopw [1, 7, 8, 9] (fun tt ps n ok wr => ∃ (id pa : Int) (b : Nat) (B : Bool) (m0 m1 m2 m3 m4 m5 : Int), tt = .int .i64 id ∧ ps = .int .i64 pa ∧ n = .pointer (some ⟨b, 0, none⟩) ∧ ok = .bool B ∧ w.heap.size ≤ b ∧ NodeAt wr b m0 m1 m2 m3 m4 m5 ∧ AtN L id B m0 m1 m2 m3 m4 m5 ∧ belowG L id key pa = belowG L t key 0 ∧ Below w.heap.size w wr) (fun tt _ _ _ _ => (intOf tt).toNat)
  case atStart => exact ⟨t, 0, _, B, m0, m1, m2, m3, m4, m5, rfl, rfl, rfl, rfl, hb.size, (Six.new w1 m0 m1 m2 m3 m4 m5 _).toNodeAt, HAT.out, rfl, hb.alloc hb.size _⟩
  case round =>
    clear hb HAT
    obtain ⟨id, pa, b, B', k0, k1, k2, k3, k4, k5, rfl, rfl, rfl, rfl, hlb, hN, hat, hge, hb⟩ := hrel
    cases B'
    · have HGE := Lib.hid hge
      have HNO := Lib.hid hat.no
      clear hat hN hge
      go_wp2_with (fail)
      go_ret
      obtain rfl := HV.out
      have e : belowG L t key 0 = pa := by rw [← HGE.out]; exact belowG_no HNO.out
      rw [e]
      exact ⟨rfl, hb⟩
    · obtain ⟨hk, e0, e1, e2, e3, e4, e5⟩ := hat.yes
      have hdl := fun c => downL_lt (c := c) hk
      have HDL := Lib.hid hdl
      have HGE := Lib.hid hge
      have HN := Lib.hid hN
      obtain ⟨dl, hdl'⟩ : ∃ d, downL L id k2 = d := ⟨_, rfl⟩
      obtain ⟨sz, hsz⟩ : ∃ z, nv L dl 4 = z := ⟨_, rfl⟩
      obtain ⟨ah, hah⟩ : ∃ z, plusW pa sz = z := ⟨_, rfl⟩
      have hahead : aheadL L id pa = ah := by unfold aheadL; rw [e2, hdl', hsz, hah]
      have cl1 := fun W => lower_any id k2 dl W hdl'
      have cs := fun W hB => size_any dl sz W (HG.out.later hB) hsz
      have cp1 := fun W => plus_any pa sz ah W hah
      clear hge hdl hat hah hsz
      by_cases hkey : k0 = key
      · have ch := fun W => holds_any k0 k1 k2 k3 k4 k5 key W
        rw [show (k0 == key) = true by simpa using hkey] at ch
        have HR := Lib.hid (show belowG L id key pa = ah by rw [belowG_here hk (e0.trans hkey), hahead])
        obtain ⟨c0, c1, c2, c3, c4, c5⟩ := hN
        clear hk e0 e1 e2 e3 e4 e5 hkey hahead hdl'
        go_wp2_with (first
          | (go_at_call 31; ((with_reducible refine (cl1 _).mono ?_); clear cl1; rintro e w3 ⟨rfl, rfl⟩))
          | (go_at_call 14; ((with_reducible refine (cs _ hb).mono ?_); clear cs; rintro e wz ⟨rfl, hbz⟩; have N2 := Lib.hid (HN.out.keep hbz); have hb1 := hb.trans (hbz.mono hb.size); obtain ⟨c0, c1, c2, c3, c4, c5⟩ := N2.out))
          | (go_at_call 35; ((with_reducible refine (cp1 _).mono ?_); clear cp1; rintro e w3 ⟨rfl, rfl⟩))
          | (go_at_call 30; ((with_reducible refine (ch _).mono ?_); clear ch; rintro e w2 ⟨rfl, hb2⟩)))
        go_ret
        obtain rfl := HV.out
        rw [← HGE.out, HR.out]
        exact ⟨rfl, hb1.trans (hb2.mono hb1.size)⟩
      · have ch := fun W => holds_any k0 k1 k2 k3 k4 k5 key W
        rw [show (k0 == key) = false by simpa using hkey] at ch
        by_cases hks : key < k0
        · have hks' : key < k0 := hks
          obtain ⟨B2, j0, j1, j2, j3, j4, j5, hat2, cg⟩ := HG.out.at hb dl
          have HAT2 := Lib.hid hat2
          have HR := Lib.hid (show belowG L dl key pa = belowG L t key 0 by rw [← HGE.out, belowG_left hk (by omega), e2, hdl'])
          have HLT := Lib.hid (show dl.toNat < id.toNat by rw [← hdl']; exact HDL.out _)
          obtain ⟨c0, c1, c2, c3, c4, c5⟩ := hN
          clear hk e0 e1 e2 e3 e4 e5 hkey hdl' hat2 hahead
          go_wp2_with (first
            | (go_at_call 31; ((with_reducible refine (cl1 _).mono ?_); clear cl1; rintro e w3 ⟨rfl, rfl⟩))
            | (go_at_call 14; ((with_reducible refine (cs _ hb).mono ?_); clear cs; rintro e wz ⟨rfl, hbz⟩; have N2 := Lib.hid (HN.out.keep hbz); have hb1 := hb.trans (hbz.mono hb.size); obtain ⟨c0, c1, c2, c3, c4, c5⟩ := N2.out))
            | (go_at_call 35; ((with_reducible refine (cp1 _).mono ?_); clear cp1; rintro e w3 ⟨rfl, rfl⟩))
            | (go_at_call 30; ((with_reducible refine (ch _).mono ?_); clear ch; rintro e w2 ⟨rfl, hb2⟩; obtain ⟨d0, d1, d2, d3, d4, d5⟩ := N2.out.keep hb2; clear c0 c1 c2 c3 c4 c5))
            | (go_at_call 29; ((with_reducible refine (cg _ ((hb1.trans (hb2.mono hb1.size)).alloc (hb1.trans (hb2.mono hb1.size)).size _)).mono ?_); clear cg; rintro e w4 ⟨rfl, hb4⟩; have s4 := (Six.new w2 k0 k1 k2 k3 k4 k5 _).keep hb4; obtain ⟨Wf, hWf, hNf, rb⟩ := s4.put j0 j1 j2 j3 j4 j5; have HS := Lib.hid (And.intro hNf rb); clear hNf rb; obtain ⟨⟨z0, z1, z2, z3, z4, z5⟩, f0, f1, f2, f3, f4, f5⟩ := s4; have HWF := Lib.hid hWf; clear hWf)))
          go_roundw
          case rel =>
            rw [← HWF.out]
            exact ⟨dl, pa, _, B2, j0, j1, j2, j3, j4, j5, rfl, rfl, rfl, rfl, (hb1.trans (hb2.mono hb1.size)).size, HS.out.1, HAT2.out, HR.out, round_below (hb1.trans (hb2.mono hb1.size)) hb4 HS.out.2⟩
          case measure => exact HLT.out
        · have hks' : ¬ key < k0 := hks
          obtain ⟨d, hd⟩ : ∃ d, downL L id k3 = d := ⟨_, rfl⟩
          obtain ⟨p2, hp2⟩ : ∃ d, plusW ah 1 = d := ⟨_, rfl⟩
          have cl2 := fun W => lower_any id k3 d W hd
          have cp2 := fun W => plus_any ah 1 p2 W hp2
          obtain ⟨B2, j0, j1, j2, j3, j4, j5, hat2, cg⟩ := HG.out.at hb d
          have HAT2 := Lib.hid hat2
          have HR := Lib.hid (show belowG L d key p2 = belowG L t key 0 by rw [← HGE.out, belowG_right hk (by omega), e3, hd, hahead, hp2])
          have HLT := Lib.hid (show d.toNat < id.toNat by rw [← hd]; exact HDL.out _)
          obtain ⟨c0, c1, c2, c3, c4, c5⟩ := hN
          clear hk e0 e1 e2 e3 e4 e5 hkey hdl' hat2 hahead hd hp2
          go_wp2_with (first
            | (go_at_call 31; ((with_reducible refine (cl1 _).mono ?_); clear cl1; rintro e w3 ⟨rfl, rfl⟩))
            | (go_at_call 31; ((with_reducible refine (cl2 _).mono ?_); clear cl2; rintro e w3 ⟨rfl, rfl⟩))
            | (go_at_call 14; ((with_reducible refine (cs _ hb).mono ?_); clear cs; rintro e wz ⟨rfl, hbz⟩; have N2 := Lib.hid (HN.out.keep hbz); have hb1 := hb.trans (hbz.mono hb.size); obtain ⟨c0, c1, c2, c3, c4, c5⟩ := N2.out))
            | (go_at_call 35; ((with_reducible refine (cp1 _).mono ?_); clear cp1; rintro e w3 ⟨rfl, rfl⟩))
            | (go_at_call 35; ((with_reducible refine (cp2 _).mono ?_); clear cp2; rintro e w3 ⟨rfl, rfl⟩))
            | (go_at_call 30; ((with_reducible refine (ch _).mono ?_); clear ch; rintro e w2 ⟨rfl, hb2⟩; obtain ⟨d0, d1, d2, d3, d4, d5⟩ := N2.out.keep hb2; clear c0 c1 c2 c3 c4 c5))
            | (go_at_call 29; ((with_reducible refine (cg _ ((hb1.trans (hb2.mono hb1.size)).alloc (hb1.trans (hb2.mono hb1.size)).size _)).mono ?_); clear cg; rintro e w4 ⟨rfl, hb4⟩; have s4 := (Six.new w2 k0 k1 k2 k3 k4 k5 _).keep hb4; obtain ⟨Wf, hWf, hNf, rb⟩ := s4.put j0 j1 j2 j3 j4 j5; have HS := Lib.hid (And.intro hNf rb); clear hNf rb; obtain ⟨⟨z0, z1, z2, z3, z4, z5⟩, f0, f1, f2, f3, f4, f5⟩ := s4; have HWF := Lib.hid hWf; clear hWf)))
          go_roundw
          case rel =>
            rw [← HWF.out]
            exact ⟨d, p2, _, B2, j0, j1, j2, j3, j4, j5, rfl, rfl, rfl, rfl, (hb1.trans (hb2.mono hb1.size)).size, HS.out.1, HAT2.out, HR.out, round_below (hb1.trans (hb2.mono hb1.size)) hb4 HS.out.2⟩
          case measure => exact HLT.out
end Go.Proofs.Ytiankcjmclpciaa
