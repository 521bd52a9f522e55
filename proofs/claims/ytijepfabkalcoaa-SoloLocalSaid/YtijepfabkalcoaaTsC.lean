/- osierref1.SameRaw. No condition: lemmas. osierref1.SameTree out of Plain; tree.Same. No condition: lemmas. osierlaw14.Light. No condition: lemmas. -/
import Derived.Test.YtijepfabkalcoaaTsA
import Derived.Test.YtijepfabkalcoaaTrS
import Derived.StillTailTactics
import Derived.Test.YtijepfabkalcoaaTrA
namespace Go.Proofs.Ytijepfabkalcoaa
open Go.RowKit
set_option linter.all false

set_option maxRecDepth 100000 in
set_option maxHeartbeats 6400000 in
theorem sraw_any (t u : Int) (a a2 : Option Addr) (cap cap2 : Nat) (N M : List Nd) (w : World) (h : Ns w a cap N) (h2 : Ns w a2 cap2 M) (hl : N.length ≤ 100000000000) (hl2 : M.length ≤ 100000000000) (B : Bool) (hB : B = true ↔ t = u ∧ N = M) :
    Calls Try.prog 38 #[trv t a cap N, trv u a2 cap2 M] w fun e w' => e = .returned (.bool B) ∧ Below w.heap.size w w' := by
  have b2 : Below w.heap.size w ((w.alloc (.cells #[.int .i64 t, .slice a N.length cap] 24)).alloc (.cells #[.int .i64 u, .slice a2 M.length cap2] 24)) := bel1 (al1 _) _
  unfold trv
  by_cases htu : t = u
  case neg =>
    obtain rfl : B = false := by
      cases B
      · rfl
      · exact absurd (hB.1 rfl).1 htu
    have e0 : (t != u) = true := by simpa using htu
    clear hB htu
    go_enter Try.func38, Try.ntmps38
    go_wp2_with (fail)
    go_ret
    exact ⟨rfl, b2⟩
  subst htu
  have e0 : (t != t) = false := by simp
  by_cases hlen : N.length = M.length
  case neg =>
    obtain rfl : B = false := by
      cases B
      · rfl
      · exact absurd (congrArg List.length (hB.1 rfl).2) hlen
    have hlen' : ((N.length : Int) != (M.length : Int)) = true := by simp; omega
    clear hlen hB
    go_enter Try.func38, Try.ntmps38
    go_wp2_with (fail)
    go_ret
    exact ⟨rfl, b2⟩
  have hB : B = true ↔ N = M := hB.trans ⟨fun h => h.2, fun h => ⟨rfl, h⟩⟩
  have HB := Lib.hid hB
  have HH := Lib.hid (h.keep b2)
  have HH2 := Lib.hid (h2.keep b2)
  have HLEN := Lib.hid hlen
  have hlen' : ((N.length : Int) != (M.length : Int)) = false := by simp [hlen]
  have G1 := Lib.hid (Bk.past (Bk.new w #[.int .i64 t, .slice a N.length cap] 24) (.cells #[.int .i64 t, .slice a2 N.length cap2] 24))
  have G2 := Lib.hid (show Bk ((w.alloc (.cells #[.int .i64 t, .slice a N.length cap] 24)).alloc (.cells #[.int .i64 t, .slice a2 N.length cap2] 24)) (w.heap.size + 1) [.int .i64 t, .slice a2 N.length cap2] from by
    have h := Bk.new (w.alloc (.cells #[.int .i64 t, .slice a N.length cap] 24)) #[.int .i64 t, .slice a2 N.length cap2] 24
    simp only [World.size_alloc] at h; exact h)
  rw [← hlen] at hlen' b2 HH HH2
  rw [← hlen]
  have HBW := Lib.hid b2
  clear h h2 hB hlen b2 hl2
  go_enter Try.func38, Try.ntmps38
  go_wp2_with (fail)
  obtain ⟨W, hW⟩ : ∃ W, ((w.alloc (.cells #[.int .i64 t, .slice a N.length cap] 24)).alloc (.cells #[.int .i64 t, .slice a2 N.length cap2] 24)) = W := ⟨_, rfl⟩
  rw [hW] at G1 G2 HH HH2 HBW ⊢
  clear hW
  go_loopw [23] (fun i wr => ∃ n : Nat, n ≤ N.length ∧ i = .int .i64 n ∧ (∀ j, j < n → N[j]? = M[j]?) ∧ Below W.heap.size W wr) (fun i _ => N.length - (intOf i).toNat)
  case atStart => exact ⟨0, Nat.zero_le _, rfl, fun j hj => absurd hj (Nat.not_lt_zero j), Below.refl _ _⟩
  case round =>
    obtain ⟨n, hn, rfl, hall, hb⟩ := hrel
    have HALL := Lib.hid hall
    have HBR := Lib.hid hb
    clear hall
    by_cases hlt : n < N.length
    · obtain ⟨x, hx⟩ : ∃ x, N[n]? = some x := ⟨_, List.getElem?_eq_getElem hlt⟩
      obtain ⟨y, hy⟩ : ∃ y, M[n]? = some y := ⟨_, List.getElem?_eq_getElem (by have := HLEN.out; omega)⟩
      obtain ⟨b, o, pa, pc, rfl, hx1⟩ := (HH.out.keep hb).2.2 n x hx
      obtain ⟨b2, o2, qa, qc, rfl, hy1⟩ := (HH2.out.keep hb).2.2 n y hy
      have HXY := Lib.hid (And.intro hx hy)
      have hn0 : (0 : Int) ≤ (n : Int) := by omega
      have hnl : (n : Int) < (N.length : Int) := by omega
      have k0 := (G1.out.keep hb).at_ 0 _ rfl
      have k1 := (G1.out.keep hb).at_ 1 _ rfl
      have l0 := (G2.out.keep hb).at_ 0 _ rfl
      have l1 := (G2.out.keep hb).at_ 1 _ rfl
      have N1 : Below wr.heap.size wr wr.drew := (Below.refl _ _).drew
      have c := fun B hB => rsamenode_any x y pa qa pc qc wr.drew (hx1.ps.below N1) (hy1.ps.below N1) B hB
      obtain ⟨e0, e1, e2, e3, e4, e5, -⟩ := hx1
      obtain ⟨d0, d1, d2, d3, d4, d5, -⟩ := hy1
      obtain ⟨r, k, l, bb, p, s⟩ := x
      obtain ⟨r', k', l', bb', p', s'⟩ := y
      unfold ndv at c
      dsimp only at e0 e1 e2 e3 e4 e5 d0 d1 d2 d3 d4 d5 c
      have HN2 := Lib.hid N1
      clear hx hy hb N1
      by_cases he : (⟨r, k, l, bb, p, s⟩ : Nd) = ⟨r', k', l', bb', p', s'⟩
      · have c' := c true ⟨fun _ => he, fun _ => rfl⟩
        have HE := Lib.hid he
        clear c he
        go_wp2_with (fail)
        go_region_with (go_at_call 72; ((with_reducible refine c'.mono ?_); clear c'; rintro e w2 ⟨rfl, hb2⟩))
        all_goals
          go_wp2_with (fail)
          go_roundw
          case rel => exact ⟨n + 1, by omega, by go_num, fun j hj => by
            rcases Nat.lt_succ_iff_lt_or_eq.1 hj with hj | rfl
            · exact HALL.out j hj
            · rw [HXY.out.1, HXY.out.2, HE.out], bel2 HBR.out (bel2 HN2.out hb2)⟩
          case measure => simp [intOf]; omega
      · have c' := c false ⟨fun h => (by cases h), fun h => absurd h he⟩
        obtain rfl : B = false := by
          cases B
          · rfl
          · have e := HB.out.1 rfl
            have h1 := HXY.out.1
            rw [e, HXY.out.2] at h1
            exact absurd (Option.some.inj h1).symm he
        clear c he
        go_wp2_with (fail)
        go_region_with (go_at_call 72; ((with_reducible refine c'.mono ?_); clear c'; rintro e w2 ⟨rfl, hb2⟩))
        all_goals
          go_wp2_with (fail)
          go_ret
          exact ⟨rfl, bel2 HBW.out (bel2 HBR.out (bel2 HN2.out hb2))⟩
    · obtain rfl : n = N.length := by omega
      obtain rfl : B = true := HB.out.2 (by
        apply List.ext_getElem?
        intro j
        rcases Nat.lt_or_ge j N.length with h | h
        · exact HALL.out j h
        · rw [List.getElem?_eq_none h, List.getElem?_eq_none (by have := HLEN.out; omega)])
      go_wp2_with (fail)
      go_ret
      exact ⟨rfl, bel2 HBW.out HBR.out⟩
end Go.Proofs.Ytijepfabkalcoaa

namespace Go.Proofs.Ytijepfabkalcoaa
open Go.RowKit
set_option linter.all false
attribute [local instance] Classical.propDecidable

set_option maxRecDepth 100000 in
set_option maxHeartbeats 6400000 in
theorem rsametree_gen (t u : Int) (a a2 : Option Addr) (cap cap2 : Nat) (N M : List Nd) (w : World) (h : Ns w a cap N) (h2 : Ns w a2 cap2 M) (x y : Bool) (P Q : List Nd) (hP : P.length ≤ 100000000000) (hQ : Q.length ≤ 100000000000) (cp : RP t a cap N x P) (cq : RP u a2 cap2 M y Q) (B : Bool) (hB : B = true ↔ x = true ∧ y = true ∧ P = Q) :
    Calls Try.prog 12 #[trv t a cap N, trv u a2 cap2 M] w fun e w' => e = .returned (.bool B) ∧ Below w.heap.size w w' := by
  have b2 : Below w.heap.size w ((w.alloc (.cells #[.int .i64 t, .slice a N.length cap] 24)).alloc (.cells #[.int .i64 u, .slice a2 M.length cap2] 24)) := bel1 (al1 _) _
  have c1 := cp _ (h.keep b2)
  have c2 := fun W hW => cq W (h2.keep hW)
  have G1 := Lib.hid (Bk.past (Bk.new w #[.int .i64 t, .slice a N.length cap] 24) (.cells #[.int .i64 u, .slice a2 M.length cap2] 24))
  have G2 := Lib.hid (show Bk ((w.alloc (.cells #[.int .i64 t, .slice a N.length cap] 24)).alloc (.cells #[.int .i64 u, .slice a2 M.length cap2] 24)) (w.heap.size + 1) [.int .i64 u, .slice a2 M.length cap2] from by
    have h := Bk.new (w.alloc (.cells #[.int .i64 t, .slice a N.length cap] 24)) #[.int .i64 u, .slice a2 M.length cap2] 24
    simp only [World.size_alloc] at h; exact h)
  have HBW := Lib.hid b2
  have cs := fun (W : World) ao c ao2 c2 (hp : Ns W ao c P) (hq : Ns W ao2 c2 Q) => sraw_any 0 0 ao ao2 c c2 P Q W hp hq hP hQ (decide (P = Q)) (by simp)
  obtain rfl : B = (x && y && decide (P = Q)) := by
    cases B <;> cases x <;> cases y <;> simp_all
  unfold PlB at c1 c2
  unfold trv at c1 c2 cs ⊢
  clear b2 h h2 hB cp cq
  cases x <;> cases y
  all_goals
    simp only [Bool.and_true, Bool.true_and, Bool.and_false, Bool.false_and]
    go_enter Try.func12, Try.ntmps12
    go_wp2_with (first
      | (go_at_call 15; ((with_reducible refine c1.mono ?_); clear c1; rintro e w3 ⟨ao, c, rfl, hn3, hb3⟩; have R1 := Lib.hid ((G1.out.keep hb3).past (.cells #[.int .i64 0, .slice ao P.length c] 24)); have R2 := Lib.hid ((G2.out.keep hb3).past (.cells #[.int .i64 0, .slice ao P.length c] 24)); have R3 := Lib.hid (Bk.new w3 #[.int .i64 0, .slice ao P.length c] 24); have HB3 := Lib.hid (bel1 (bel2 HBW.out hb3) (.cells #[.int .i64 0, .slice ao P.length c] 24)); have HN3 := Lib.hid (hn3.keep (al1 (.cells #[.int .i64 0, .slice ao P.length c] 24))); have l0 := R2.out.at_ 0 _ rfl; have l1 := R2.out.at_ 1 _ rfl; clear hb3 hn3))
      | (go_at_call 15; ((with_reducible refine (c2 _ HB3.out).mono ?_); clear c2 l0 l1; rintro e w4 ⟨ao2, cc2, rfl, hn4, hb4⟩; have R4 := Lib.hid ((R3.out.keep hb4).past (.cells #[.int .i64 0, .slice ao2 Q.length cc2] 24)); have HB4 := Lib.hid (bel1 (bel2 HB3.out hb4) (.cells #[.int .i64 0, .slice ao2 Q.length cc2] 24)); have HN4 := Lib.hid (hn4.keep (al1 (.cells #[.int .i64 0, .slice ao2 Q.length cc2] 24))); have HN5 := Lib.hid ((HN3.out.keep hb4).keep (al1 (.cells #[.int .i64 0, .slice ao2 Q.length cc2] 24))); have k0 := R4.out.at_ 0 _ rfl; have k1 := R4.out.at_ 1 _ rfl; clear hb4 hn4))
      | (go_at_call 38; ((with_reducible refine (cs _ _ _ _ _ HN5.out HN4.out).mono ?_); clear cs; rintro e w6 ⟨rfl, hb6⟩; have HB6 := Lib.hid (bel2 HB4.out hb6); clear hb6))
      | fail)
    go_ret
    first | exact ⟨rfl, HB6.out⟩ | exact ⟨rfl, HB4.out⟩ | exact ⟨by simp, HB6.out⟩
end Go.Proofs.Ytijepfabkalcoaa

namespace Go.Proofs.Ytijepfabkalcoaa
open Go.RowKit
set_option linter.all false

/-- So many pairs in the first n nodes. -/
def psum (N : List Nd) (n : Nat) : Nat := ((N.take n).map (fun z => z.p.length)).sum
theorem psum_succ {N : List Nd} {n : Nat} {x : Nd} (hx : N[n]? = some x) : psum N (n + 1) = psum N n + x.p.length := by
  unfold psum
  rw [List.take_add_one, hx]
  simp
theorem psum_le {N : List Nd} (hm : Mid N) : ∀ n, psum N n ≤ n * 8796093022208 := by
  intro n
  induction n with
  | zero => simp [psum]
  | succ n ih =>
    rcases Nat.lt_or_ge n N.length with h | h
    · obtain ⟨x, hx⟩ : ∃ x, N[n]? = some x := ⟨_, List.getElem?_eq_getElem h⟩
      rw [psum_succ hx]
      have := hm x (List.mem_of_getElem? hx)
      omega
    · have : psum N (n + 1) = psum N n := by unfold psum; rw [List.take_of_length_le (by omega), List.take_of_length_le h]
      omega
theorem sum_mem {f : Nd → Nat} : ∀ {N : List Nd} {x : Nd}, x ∈ N → f x ≤ (N.map f).sum := by
  intro N
  induction N with
  | nil => intro x h; cases h
  | cons y l ih =>
    intro x h
    rw [List.map_cons, List.sum_cons]
    rcases List.mem_cons.1 h with rfl | h
    · omega
    · have := ih h; omega
/-- Few nodes, few pairs. -/
def Lgt (N : List Nd) : Prop := N.length ≤ 450 ∧ psum N N.length ≤ 2000
theorem Lgt.small {N : List Nd} (h : Lgt N) : Small N := ⟨by have := h.1; omega, fun n hn => by
  have h1 := sum_mem (f := fun z => z.p.length) hn
  have h2 := h.2
  unfold psum at h2
  rw [List.take_length] at h2
  omega⟩
theorem wrap_sum {S l : Nat} (h : S ≤ 450 * 8796093022208) (h2 : l ≤ 8796093022208) : wrap64 ((S : Int) + (l : Int)) = ((S + l : Nat) : Int) := by unfold wrap64; omega
theorem psum_w {N : List Nd} (hm : Mid N) {n : Nat} (hn : n ≤ 450) {x : Nd} (hx : N[n]? = some x) : wrap64 ((psum N n : Int) + (x.p.length : Int)) = ((psum N (n + 1) : Nat) : Int) := by
  rw [psum_succ hx]
  exact wrap_sum (Nat.le_trans (psum_le hm n) (Nat.mul_le_mul_right _ hn)) (hm x (List.mem_of_getElem? hx))
set_option maxRecDepth 100000 in
set_option maxHeartbeats 6400000 in
theorem light_yes (t : Int) (a : Option Addr) (cap : Nat) (N : List Nd) (w : World) (hN : Ns w a cap N) (hm : Mid N) (hl : N.length ≤ 450) (L : Int) (hL : L = if psum N N.length ≤ 2000 then 0 else 1) :
    Calls Try.prog 10 #[trv t a cap N] w fun e w' => e = .returned (.int .i64 L) ∧ Below w.heap.size w w' := by
  have b1 : Below w.heap.size w (w.alloc (.cells #[.int .i64 t, .slice a N.length cap] 24)) := al1 _
  have HB := Lib.hid b1
  have HN := Lib.hid (hN.keep b1)
  have HM := Lib.hid hm
  have HL := Lib.hid hL
  have G1 := Lib.hid (Bk.new w #[.int .i64 t, .slice a N.length cap] 24)
  unfold trv
  clear b1 hN hm hL
  go_enter Try.func10, Try.ntmps10
  go_wp2_with (fail)
  obtain ⟨W, hW⟩ : ∃ W, (w.alloc (.cells #[.int .i64 t, .slice a N.length cap] 24)) = W := ⟨_, rfl⟩
  rw [hW] at G1 HN HB ⊢
  clear hW
  go_loopw [9, 3] (fun i x wr => ∃ n : Nat, n ≤ N.length ∧ i = .int .i64 n ∧ x = .int .i64 (psum N n : Nat) ∧ Below W.heap.size W wr) (fun i _ _ => N.length - (intOf i).toNat)
  case atStart => exact ⟨0, Nat.zero_le _, rfl, rfl, Below.refl _ _⟩
  case round =>
    obtain ⟨n, hn, rfl, rfl, hb⟩ := hrel
    have HBR := Lib.hid hb
    by_cases hlt : n < N.length
    · obtain ⟨x, hx⟩ : ∃ x, N[n]? = some x := ⟨_, List.getElem?_eq_getElem hlt⟩
      obtain ⟨b, o, pa, pc, rfl, hx1⟩ := (HN.out.keep hb).2.2 n x hx
      have hn0 : (0 : Int) ≤ (n : Int) := by omega
      have hnl : (n : Int) < (N.length : Int) := by omega
      have hw := psum_w HM.out (Nat.le_trans hn hl) hx
      obtain ⟨e0, e1, e2, e3, e4, e5, -⟩ := hx1
      obtain ⟨r, k, l, bb, p, s⟩ := x
      dsimp only at e0 e1 e2 e3 e4 e5 hw
      clear hx hb
      go_wp2_with (fail)
      go_roundw
      case rel => exact ⟨n + 1, by omega, by go_num, by rw [hw], bel2 HBR.out (al1 _)⟩
      case measure => simp [intOf]; omega
    · obtain rfl : n = N.length := by omega
      have k1 := (G1.out.keep hb).at_ 1 _ rfl
      by_cases hs : (2000 : Int) < ((psum N N.length : Nat) : Int)
      · have hL : L = 1 := by rw [HL.out, if_neg (by omega)]
        subst hL
        generalize psum N N.length = S1 at *
        go_wp2_with (fail)
        go_ret
        exact ⟨rfl, bel2 HB.out HBR.out⟩
      · have hL : L = 0 := by rw [HL.out, if_pos (by omega)]
        subst hL
        generalize psum N N.length = S1 at *
        go_wp2_with (fail)
        go_ret
        exact ⟨rfl, bel2 HB.out HBR.out⟩
set_option maxRecDepth 100000 in
set_option maxHeartbeats 6400000 in
theorem light_big (t : Int) (a : Option Addr) (cap : Nat) (N : List Nd) (w : World) (hN : Ns w a cap N) (hl : ¬ N.length ≤ 450) :
    Calls Try.prog 10 #[trv t a cap N] w fun e w' => e = .returned (.int .i64 1) ∧ Below w.heap.size w w' := by
  have b1 : Below w.heap.size w (w.alloc (.cells #[.int .i64 t, .slice a N.length cap] 24)) := al1 _
  have HB := Lib.hid b1
  have HN := Lib.hid (hN.keep b1)
  have hc1 := hN.1
  have hc2 := hN.2.1
  unfold maxLen at hc2
  have hbig : (450 : Int) < (N.length : Int) := by omega
  have G1 := Lib.hid (Bk.new w #[.int .i64 t, .slice a N.length cap] 24)
  unfold trv
  clear b1 hN hl
  go_enter Try.func10, Try.ntmps10
  go_wp2_with (fail)
  obtain ⟨W, hW⟩ : ∃ W, (w.alloc (.cells #[.int .i64 t, .slice a N.length cap] 24)) = W := ⟨_, rfl⟩
  rw [hW] at G1 HN HB ⊢
  clear hW
  go_loopw [9, 3] (fun i x wr => ∃ (n : Nat) (v : Int), n ≤ N.length ∧ i = .int .i64 n ∧ x = .int .i64 v ∧ Below W.heap.size W wr) (fun i _ _ => N.length - (intOf i).toNat)
  case atStart => exact ⟨0, 0, Nat.zero_le _, rfl, rfl, Below.refl _ _⟩
  case round =>
    obtain ⟨n, v, hn, rfl, rfl, hb⟩ := hrel
    have HBR := Lib.hid hb
    by_cases hlt : n < N.length
    · obtain ⟨x, hx⟩ : ∃ x, N[n]? = some x := ⟨_, List.getElem?_eq_getElem hlt⟩
      obtain ⟨b, o, pa, pc, rfl, hx1⟩ := (HN.out.keep hb).2.2 n x hx
      have hn0 : (0 : Int) ≤ (n : Int) := by omega
      have hnl : (n : Int) < (N.length : Int) := by omega
      obtain ⟨e0, e1, e2, e3, e4, e5, -⟩ := hx1
      obtain ⟨r, k, l, bb, p, s⟩ := x
      dsimp only at e0 e1 e2 e3 e4 e5
      clear hx hb
      go_wp2_with (fail)
      go_roundw
      case rel => exact ⟨n + 1, _, by omega, by go_num, rfl, bel2 HBR.out (al1 _)⟩
      case measure => simp [intOf]; omega
    · obtain rfl : n = N.length := by omega
      have k1 := (G1.out.keep hb).at_ 1 _ rfl
      go_wp2_with (fail)
      go_ret
      exact ⟨rfl, bel2 HB.out HBR.out⟩
theorem light_any (t : Int) (a : Option Addr) (cap : Nat) (N : List Nd) (w : World) (hN : Ns w a cap N) (hm : Mid N) (L : Int) (h1 : Lgt N → L = 0) (h2 : ¬ Lgt N → L = 1) :
    Calls Try.prog 10 #[trv t a cap N] w fun e w' => e = .returned (.int .i64 L) ∧ Below w.heap.size w w' := by
  by_cases hl : N.length ≤ 450
  · refine light_yes t a cap N w hN hm hl L ?_
    split
    · exact h1 ⟨hl, by assumption⟩
    · exact h2 (fun h => absurd h.2 (by assumption))
  · obtain rfl := h2 (fun h => hl h.1)
    exact light_big t a cap N w hN hl
end Go.Proofs.Ytijepfabkalcoaa

