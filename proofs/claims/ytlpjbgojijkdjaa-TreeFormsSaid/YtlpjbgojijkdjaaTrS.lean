/- Nodes alike: tree.sameNode, osierref1.SameNode; slices.EqualFunc. No condition: lemmas. -/
import Derived.Test.YtlpjbgojijkdjaaTrN
namespace Go.Proofs.Ytlpjbgojijkdjaa
open Go.RowKit
set_option linter.all false

set_option maxRecDepth 100000 in
set_option maxHeartbeats 6400000 in
theorem samenode_any (n m : Nd) (pa qa : Option Addr) (pc qc : Nat) (w : World) (h : Prs w pa pc n.p) (h2 : Prs w qa qc m.p) (B : Bool) (hB : B = true ↔ n = m) :
    Calls Try.prog 43 #[ndv n pa pc, ndv m qa qc] w fun e w' => e = .returned (.bool B) ∧ Below w.heap.size w w' := by
  obtain ⟨r, k, l, b, p, s⟩ := n
  obtain ⟨r', k', l', b', p', s'⟩ := m
  rw [Nd.mk.injEq] at hB
  unfold ndv
  dsimp only at h h2 ⊢
  have b1 : Below w.heap.size w (w.alloc (.cells #[.bool r, .int .i64 k, .int .i64 l, .int .i64 b, .slice pa p.length pc, .int .i64 s] 51)) := al1 _
  have b2 : Below w.heap.size w ((w.alloc (.cells #[.bool r, .int .i64 k, .int .i64 l, .int .i64 b, .slice pa p.length pc, .int .i64 s] 51)).alloc (.cells #[.bool r', .int .i64 k', .int .i64 l', .int .i64 b', .slice qa p'.length qc, .int .i64 s'] 51)) := bel1 b1 _
  have c := lsame_any pa qa pc qc p p' _ (h.below b2) (h2.below b2) (decide (p = p')) rfl
  by_cases h0 : r = r'
  case neg =>
    obtain rfl : B = false := by cases B <;> simp_all
    have e0 : (r == r') = false := by simpa using h0
    clear hB c
    go_enter Try.func43, Try.ntmps43
    go_wp2_with (fail)
    go_ret
    exact ⟨rfl, b2⟩
  subst h0
  by_cases h0 : k = k'
  case neg =>
    obtain rfl : B = false := by cases B <;> simp_all
    have e0 : (k == k') = false := by simpa using h0
    clear hB c
    go_enter Try.func43, Try.ntmps43
    go_wp2_with (fail)
    go_ret
    exact ⟨rfl, b2⟩
  subst h0
  by_cases h0 : l = l'
  case neg =>
    obtain rfl : B = false := by cases B <;> simp_all
    have e0 : (l == l') = false := by simpa using h0
    clear hB c
    go_enter Try.func43, Try.ntmps43
    go_wp2_with (fail)
    go_ret
    exact ⟨rfl, b2⟩
  subst h0
  by_cases h0 : b = b'
  case neg =>
    obtain rfl : B = false := by cases B <;> simp_all
    have e0 : (b == b') = false := by simpa using h0
    clear hB c
    go_enter Try.func43, Try.ntmps43
    go_wp2_with (fail)
    go_ret
    exact ⟨rfl, b2⟩
  subst h0
  by_cases h0 : s = s'
  case neg =>
    obtain rfl : B = false := by cases B <;> simp_all
    have e0 : (s == s') = false := by simpa using h0
    clear hB c
    go_enter Try.func43, Try.ntmps43
    go_wp2_with (fail)
    go_ret
    exact ⟨rfl, b2⟩
  subst h0
  have hB2 : decide (p = p') = B := by
    cases B
    · simpa using hB
    · simpa using hB
  rw [hB2] at c
  have HB := Lib.hid b2
  clear hB hB2 h h2 b1 b2
  go_enter Try.func43, Try.ntmps43
  go_wp2_with (go_at_call 53; ((with_reducible refine c.mono ?_); clear c; rintro e w2 ⟨rfl, hb2⟩))
  go_ret
  exact ⟨by simp, bel2 HB.out hb2⟩

set_option maxRecDepth 100000 in
set_option maxHeartbeats 6400000 in
theorem rsamenode_any (n m : Nd) (pa qa : Option Addr) (pc qc : Nat) (w : World) (h : Prs w pa pc n.p) (h2 : Prs w qa qc m.p) (B : Bool) (hB : B = true ↔ n = m) :
    Calls Try.prog 39 #[ndv n pa pc, ndv m qa qc] w fun e w' => e = .returned (.bool B) ∧ Below w.heap.size w w' := by
  obtain ⟨r, k, l, b, p, s⟩ := n
  obtain ⟨r', k', l', b', p', s'⟩ := m
  rw [Nd.mk.injEq] at hB
  unfold ndv
  dsimp only at h h2 ⊢
  have b1 : Below w.heap.size w (w.alloc (.cells #[.bool r, .int .i64 k, .int .i64 l, .int .i64 b, .slice pa p.length pc, .int .i64 s] 51)) := al1 _
  have b2 : Below w.heap.size w ((w.alloc (.cells #[.bool r, .int .i64 k, .int .i64 l, .int .i64 b, .slice pa p.length pc, .int .i64 s] 51)).alloc (.cells #[.bool r', .int .i64 k', .int .i64 l', .int .i64 b', .slice qa p'.length qc, .int .i64 s'] 51)) := bel1 b1 _
  have c := samep_any pa qa pc qc p p' _ (h.below b2) (h2.below b2) (decide (p = p')) rfl
  by_cases h0 : r = r'
  case neg =>
    obtain rfl : B = false := by cases B <;> simp_all
    have e0 : (r == r') = false := by simpa using h0
    clear hB c
    go_enter Try.func39, Try.ntmps39
    go_wp2_with (fail)
    go_ret
    exact ⟨rfl, b2⟩
  subst h0
  by_cases h0 : k = k'
  case neg =>
    obtain rfl : B = false := by cases B <;> simp_all
    have e0 : (k == k') = false := by simpa using h0
    clear hB c
    go_enter Try.func39, Try.ntmps39
    go_wp2_with (fail)
    go_ret
    exact ⟨rfl, b2⟩
  subst h0
  by_cases h0 : l = l'
  case neg =>
    obtain rfl : B = false := by cases B <;> simp_all
    have e0 : (l == l') = false := by simpa using h0
    clear hB c
    go_enter Try.func39, Try.ntmps39
    go_wp2_with (fail)
    go_ret
    exact ⟨rfl, b2⟩
  subst h0
  by_cases h0 : b = b'
  case neg =>
    obtain rfl : B = false := by cases B <;> simp_all
    have e0 : (b == b') = false := by simpa using h0
    clear hB c
    go_enter Try.func39, Try.ntmps39
    go_wp2_with (fail)
    go_ret
    exact ⟨rfl, b2⟩
  subst h0
  by_cases h0 : s = s'
  case neg =>
    obtain rfl : B = false := by cases B <;> simp_all
    have e0 : (s == s') = false := by simpa using h0
    clear hB c
    go_enter Try.func39, Try.ntmps39
    go_wp2_with (fail)
    go_ret
    exact ⟨rfl, b2⟩
  subst h0
  have hB2 : decide (p = p') = B := by
    cases B
    · simpa using hB
    · simpa using hB
  rw [hB2] at c
  have HB := Lib.hid b2
  clear hB hB2 h h2 b1 b2
  go_enter Try.func39, Try.ntmps39
  go_wp2_with (go_at_call 22; ((with_reducible refine c.mono ?_); clear c; rintro e w2 ⟨rfl, hb2⟩))
  go_ret
  exact ⟨by simp, bel2 HB.out hb2⟩

set_option maxRecDepth 100000 in
set_option maxHeartbeats 6400000 in
theorem eqf_any (a a2 : Option Addr) (cap cap2 : Nat) (N M : List Nd) (w : World) (h : Ns w a cap N) (h2 : Ns w a2 cap2 M) (B : Bool) (hB : B = true ↔ N = M) :
    Calls Try.prog 42 #[.slice a N.length cap, .slice a2 M.length cap2, .func (.func 43) #[] #[]] w fun e w' => e = .returned (.bool B) ∧ Below w.heap.size w w' := by
  by_cases hlen : N.length = M.length
  case neg =>
    obtain rfl : B = false := by
      cases B
      · rfl
      · exact absurd (congrArg List.length (hB.1 rfl)) hlen
    have h1 := h.1; have h3 := h.2.1; have h4 := h2.1; have h5 := h2.2.1
    unfold maxLen at h3 h5
    have hlen' : ((N.length : Int) != (M.length : Int)) = true := by simp; omega
    clear hlen hB
    go_enter Try.func42, Try.ntmps42
    go_wp2_with (fail)
    go_ret
    exact ⟨rfl, Below.refl _ _⟩
  have HB := Lib.hid hB
  have HH := Lib.hid h
  have HH2 := Lib.hid h2
  have hc1 := h.1
  have hc2 := h.2.1
  have hc3 := h2.1
  have hc4 := h2.2.1
  have HLEN := Lib.hid hlen
  have hlen' : ((N.length : Int) != (M.length : Int)) = false := by simp [hlen]
  rw [← hlen] at hc3 hlen'
  rw [← hlen]
  clear h h2 hB hlen
  unfold maxLen at hc2 hc4
  go_enter Try.func42, Try.ntmps42
  go_wp2_with (fail)
  go_loopw [17] (fun i wr => ∃ n : Nat, n ≤ N.length ∧ i = .int .i64 n ∧ (∀ j, j < n → N[j]? = M[j]?) ∧ Below w.heap.size w wr) (fun i _ => N.length - (intOf i).toNat)
  case atStart => exact ⟨0, Nat.zero_le _, rfl, fun j hj => absurd hj (Nat.not_lt_zero j), Below.refl _ _⟩
  case round =>
    obtain ⟨n, hn, rfl, hall, hb⟩ := hrel
    have HALL := Lib.hid hall
    have HBW := Lib.hid hb
    clear hall
    by_cases hlt : n < N.length
    · obtain ⟨x, hx⟩ : ∃ x, N[n]? = some x := ⟨_, List.getElem?_eq_getElem hlt⟩
      obtain ⟨y, hy⟩ : ∃ y, M[n]? = some y := ⟨_, List.getElem?_eq_getElem (by have := HLEN.out; omega)⟩
      obtain ⟨b, o, pa, pc, rfl, hx1⟩ := (HH.out.keep hb).2.2 n x hx
      obtain ⟨b2, o2, qa, qc, rfl, hy1⟩ := (HH2.out.keep hb).2.2 n y hy
      have HXY := Lib.hid (And.intro hx hy)
      have hn0 : (0 : Int) ≤ (n : Int) := by omega
      have hnl : (n : Int) < (N.length : Int) := by omega
      obtain ⟨r, k, l, bb, p, s⟩ := x
      obtain ⟨r', k', l', bb', p', s'⟩ := y
      have N1 : Below wr.heap.size wr (wr.alloc (.cells #[.bool r, .int .i64 k, .int .i64 l, .int .i64 bb, .slice pa p.length pc, .int .i64 s] 51)) := al1 _
      have N2 : Below wr.heap.size wr ((wr.alloc (.cells #[.bool r, .int .i64 k, .int .i64 l, .int .i64 bb, .slice pa p.length pc, .int .i64 s] 51)).alloc (.cells #[.bool r', .int .i64 k', .int .i64 l', .int .i64 bb', .slice qa p'.length qc, .int .i64 s'] 51)) := bel1 N1 _
      have c := fun B hB => samenode_any ⟨r, k, l, bb, p, s⟩ ⟨r', k', l', bb', p', s'⟩ pa qa pc qc _ (hx1.ps.below N2) (hy1.ps.below N2) B hB
      obtain ⟨e0, e1, e2, e3, e4, e5, -⟩ := hx1
      obtain ⟨d0, d1, d2, d3, d4, d5, -⟩ := hy1.keep N1
      unfold ndv at c
      dsimp only at e0 e1 e2 e3 e4 e5 d0 d1 d2 d3 d4 d5 c
      have HN2 := Lib.hid N2
      clear hx hy hb N1 N2 hy1
      by_cases he : (⟨r, k, l, bb, p, s⟩ : Nd) = ⟨r', k', l', bb', p', s'⟩
      · have c' := c true ⟨fun _ => he, fun _ => rfl⟩
        have HE := Lib.hid he
        clear c he
        go_wp2_with (go_at_call 43; ((with_reducible refine c'.mono ?_); clear c'; rintro e w2 ⟨rfl, hb2⟩))
        go_roundw
        case rel => exact ⟨n + 1, by omega, by go_num, fun j hj => by
          rcases Nat.lt_succ_iff_lt_or_eq.1 hj with hj | rfl
          · exact HALL.out j hj
          · rw [HXY.out.1, HXY.out.2, HE.out], bel2 HBW.out (bel2 HN2.out hb2)⟩
        case measure => simp [intOf]; omega
      · have c' := c false ⟨fun h => (by cases h), fun h => absurd h he⟩
        obtain rfl : B = false := by
          cases B
          · rfl
          · have e := HB.out.1 rfl
            have h1 := HXY.out.1
            rw [e, HXY.out.2] at h1
            exact absurd (Option.some.inj h1).symm he
        clear c he
        go_wp2_with (go_at_call 43; ((with_reducible refine c'.mono ?_); clear c'; rintro e w2 ⟨rfl, hb2⟩))
        go_ret
        exact ⟨rfl, bel2 HBW.out (bel2 HN2.out hb2)⟩
    · obtain rfl : n = N.length := by omega
      obtain rfl : B = true := HB.out.2 (by
        apply List.ext_getElem?
        intro j
        by_cases hj : j < N.length
        · exact HALL.out j hj
        · rw [List.getElem?_eq_none (by omega), List.getElem?_eq_none (by have := HLEN.out; omega)])
      go_wp2_with (fail)
      go_ret
      exact ⟨rfl, hb⟩
#print axioms eqf_any
end Go.Proofs.Ytlpjbgojijkdjaa
