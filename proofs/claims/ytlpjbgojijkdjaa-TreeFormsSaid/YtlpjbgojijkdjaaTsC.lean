/- osierref1.SameRaw. No condition: lemmas. -/
import Derived.Test.YtlpjbgojijkdjaaTsB
import Derived.Test.YtlpjbgojijkdjaaTrS
import Derived.StillTailTactics
namespace Go.Proofs.Ytlpjbgojijkdjaa
open Go.RowKit
set_option linter.all false

set_option maxRecDepth 100000 in
set_option maxHeartbeats 6400000 in
theorem sraw_any (t u : Int) (a a2 : Option Addr) (cap cap2 : Nat) (N M : List Nd) (w : World) (h : Ns w a cap N) (h2 : Ns w a2 cap2 M) (hl : N.length ≤ 1000000) (hl2 : M.length ≤ 1000000) (B : Bool) (hB : B = true ↔ t = u ∧ N = M) :
    Calls Try.prog 15 #[trv t a cap N, trv u a2 cap2 M] w fun e w' => e = .returned (.bool B) ∧ Below w.heap.size w w' := by
  have b2 : Below w.heap.size w ((w.alloc (.cells #[.int .i64 t, .slice a N.length cap] 24)).alloc (.cells #[.int .i64 u, .slice a2 M.length cap2] 24)) := bel1 (al1 _) _
  unfold trv
  by_cases htu : t = u
  case neg =>
    obtain rfl : B = false := by
      cases B
      · rfl
      · exact absurd (hB.1 rfl).1 htu
    have e0 : (t != u) = true := by simpa using htu
    clear hB htu
    go_enter Try.func15, Try.ntmps15
    go_wp2_with (fail)
    go_ret
    exact ⟨rfl, b2⟩
  subst htu
  have e0 : (t != t) = false := by simp
  by_cases hlen : N.length = M.length
  case neg =>
    obtain rfl : B = false := by
      cases B
      · rfl
      · exact absurd (congrArg List.length (hB.1 rfl).2) hlen
    have hlen' : ((N.length : Int) != (M.length : Int)) = true := by simp; omega
    clear hlen hB
    go_enter Try.func15, Try.ntmps15
    go_wp2_with (fail)
    go_ret
    exact ⟨rfl, b2⟩
  have hB : B = true ↔ N = M := hB.trans ⟨fun h => h.2, fun h => ⟨rfl, h⟩⟩
  have HB := Lib.hid hB
  have HH := Lib.hid (h.keep b2)
  have HH2 := Lib.hid (h2.keep b2)
  have HLEN := Lib.hid hlen
  have hlen' : ((N.length : Int) != (M.length : Int)) = false := by simp [hlen]
  have G1 := Lib.hid (Bk.past (Bk.new w #[.int .i64 t, .slice a N.length cap] 24) (.cells #[.int .i64 t, .slice a2 N.length cap2] 24))
  have G2 := Lib.hid (show Bk ((w.alloc (.cells #[.int .i64 t, .slice a N.length cap] 24)).alloc (.cells #[.int .i64 t, .slice a2 N.length cap2] 24)) (w.heap.size + 1) [.int .i64 t, .slice a2 N.length cap2] from by
    have h := Bk.new (w.alloc (.cells #[.int .i64 t, .slice a N.length cap] 24)) #[.int .i64 t, .slice a2 N.length cap2] 24
    simp only [World.size_alloc] at h; exact h)
  rw [← hlen] at hlen' b2 HH HH2
  rw [← hlen]
  have HBW := Lib.hid b2
  clear h h2 hB hlen b2 hl2
  go_enter Try.func15, Try.ntmps15
  go_wp2_with (fail)
  obtain ⟨W, hW⟩ : ∃ W, ((w.alloc (.cells #[.int .i64 t, .slice a N.length cap] 24)).alloc (.cells #[.int .i64 t, .slice a2 N.length cap2] 24)) = W := ⟨_, rfl⟩
  rw [hW] at G1 G2 HH HH2 HBW ⊢
  clear hW
  go_loopw [23] (fun i wr => ∃ n : Nat, n ≤ N.length ∧ i = .int .i64 n ∧ (∀ j, j < n → N[j]? = M[j]?) ∧ Below W.heap.size W wr) (fun i _ => N.length - (intOf i).toNat)
  case atStart => exact ⟨0, Nat.zero_le _, rfl, fun j hj => absurd hj (Nat.not_lt_zero j), Below.refl _ _⟩
  case round =>
    obtain ⟨n, hn, rfl, hall, hb⟩ := hrel
    have HALL := Lib.hid hall
    have HBR := Lib.hid hb
    clear hall
    by_cases hlt : n < N.length
    · obtain ⟨x, hx⟩ : ∃ x, N[n]? = some x := ⟨_, List.getElem?_eq_getElem hlt⟩
      obtain ⟨y, hy⟩ : ∃ y, M[n]? = some y := ⟨_, List.getElem?_eq_getElem (by have := HLEN.out; omega)⟩
      obtain ⟨b, o, pa, pc, rfl, hx1⟩ := (HH.out.keep hb).2.2 n x hx
      obtain ⟨b2, o2, qa, qc, rfl, hy1⟩ := (HH2.out.keep hb).2.2 n y hy
      have HXY := Lib.hid (And.intro hx hy)
      have hn0 : (0 : Int) ≤ (n : Int) := by omega
      have hnl : (n : Int) < (N.length : Int) := by omega
      have k0 := (G1.out.keep hb).at_ 0 _ rfl
      have k1 := (G1.out.keep hb).at_ 1 _ rfl
      have l0 := (G2.out.keep hb).at_ 0 _ rfl
      have l1 := (G2.out.keep hb).at_ 1 _ rfl
      have N1 : Below wr.heap.size wr wr.drew := (Below.refl _ _).drew
      have c := fun B hB => rsamenode_any x y pa qa pc qc wr.drew (hx1.ps.below N1) (hy1.ps.below N1) B hB
      obtain ⟨e0, e1, e2, e3, e4, e5, -⟩ := hx1
      obtain ⟨d0, d1, d2, d3, d4, d5, -⟩ := hy1
      obtain ⟨r, k, l, bb, p, s⟩ := x
      obtain ⟨r', k', l', bb', p', s'⟩ := y
      unfold ndv at c
      dsimp only at e0 e1 e2 e3 e4 e5 d0 d1 d2 d3 d4 d5 c
      have HN2 := Lib.hid N1
      clear hx hy hb N1
      by_cases he : (⟨r, k, l, bb, p, s⟩ : Nd) = ⟨r', k', l', bb', p', s'⟩
      · have c' := c true ⟨fun _ => he, fun _ => rfl⟩
        have HE := Lib.hid he
        clear c he
        go_wp2_with (fail)
        go_region_with (go_at_call 39; ((with_reducible refine c'.mono ?_); clear c'; rintro e w2 ⟨rfl, hb2⟩))
        all_goals
          go_wp2_with (fail)
          go_roundw
          case rel => exact ⟨n + 1, by omega, by go_num, fun j hj => by
            rcases Nat.lt_succ_iff_lt_or_eq.1 hj with hj | rfl
            · exact HALL.out j hj
            · rw [HXY.out.1, HXY.out.2, HE.out], bel2 HBR.out (bel2 HN2.out hb2)⟩
          case measure => simp [intOf]; omega
      · have c' := c false ⟨fun h => (by cases h), fun h => absurd h he⟩
        obtain rfl : B = false := by
          cases B
          · rfl
          · have e := HB.out.1 rfl
            have h1 := HXY.out.1
            rw [e, HXY.out.2] at h1
            exact absurd (Option.some.inj h1).symm he
        clear c he
        go_wp2_with (fail)
        go_region_with (go_at_call 39; ((with_reducible refine c'.mono ?_); clear c'; rintro e w2 ⟨rfl, hb2⟩))
        all_goals
          go_wp2_with (fail)
          go_ret
          exact ⟨rfl, bel2 HBW.out (bel2 HBR.out (bel2 HN2.out hb2))⟩
    · obtain rfl : n = N.length := by omega
      obtain rfl : B = true := HB.out.2 (by
        apply List.ext_getElem?
        intro j
        rcases Nat.lt_or_ge j N.length with h | h
        · exact HALL.out j h
        · rw [List.getElem?_eq_none h, List.getElem?_eq_none (by have := HLEN.out; omega)])
      go_wp2_with (fail)
      go_ret
      exact ⟨rfl, bel2 HBW.out HBR.out⟩
#print axioms sraw_any
end Go.Proofs.Ytlpjbgojijkdjaa
