/- slices.Index and Contains over ints; adapt.isLeaf, adapt.above exactly. No condition: lemmas. -/
import Derived.Test.YteebceecohhegaaTrU
import Derived.Test.YteebceecohhegaaAeM
import Derived.OwnWalk
namespace Go.Proofs.Yteebceecohhegaa
open Go.RowKit
set_option linter.all false

/-- Where a number stands first. -/
def Fst (L : List Int) (x n : Int) : Prop := (n = -1 ∧ x ∉ L) ∨ ∃ i : Nat, n = i ∧ i < L.length ∧ L[i]? = some x ∧ x ∉ L.take i
set_option maxRecDepth 100000 in
set_option maxHeartbeats 3200000 in
theorem ixI_any (ao : Option Addr) (c : Nat) (L : List Int) (x : Int) (w : World) (h : RI w ao c L) :
    Calls Try.prog 42 #[.slice ao L.length c, .int .i64 x] w fun e w' => (∃ n : Int, e = .returned (.int .i64 n) ∧ Fst L x n) ∧ w' = w := by
  have HH := Lib.hid h
  have hc1 := h.1
  have hc2 := h.2.1
  clear h
  unfold maxLen at hc2
  go_enter Try.func42, Try.ntmps42
  go_wp2_with (fail)
  go_loopw [8] (fun i wr => ∃ n : Nat, n ≤ L.length ∧ i = .int .i64 n ∧ (x ∉ L.take n) ∧ wr = w) (fun i _ => L.length - (intOf i).toNat)
  case atStart => exact ⟨0, Nat.zero_le _, rfl, by simp, rfl⟩
  case round =>
    obtain ⟨n, hn, rfl, hno, rfl⟩ := hrel
    have HNO := Lib.hid hno
    clear hno
    by_cases hlt : n < L.length
    · obtain ⟨q, hq⟩ : ∃ q, L[n]? = some q := ⟨_, List.getElem?_eq_getElem hlt⟩
      obtain ⟨b, o, rfl, c0⟩ := HH.out.2.2 n q hq
      have HQ := Lib.hid hq
      clear hq
      by_cases he : x = q
      · subst he
        go_wp2_with (fail)
        go_ret
        exact ⟨⟨_, rfl, .inr ⟨n, rfl, hlt, HQ.out, HNO.out⟩⟩, rfl⟩
      · have he' : (x == q) = false := by simp [he]
        go_wp2_with (fail)
        go_roundw
        case rel =>
          refine ⟨n + 1, by omega, by go_num, fun hz => ?_, by trivial⟩
          rw [List.take_succ, HQ.out] at hz
          simp at hz
          rcases hz with hz | hz
          · exact HNO.out hz
          · exact he hz
        case measure => simp [intOf]; omega
    · obtain rfl : n = L.length := by omega
      go_wp2_with (fail)
      go_ret
      exact ⟨⟨_, rfl, .inl ⟨rfl, fun h => HNO.out (by rw [List.take_of_length_le (Nat.le_refl _)]; exact h)⟩⟩, rfl⟩
theorem ctI_any (ao : Option Addr) (c : Nat) (L : List Int) (x : Int) (w : World) (h : RI w ao c L) (B : Bool) (hB : B = true ↔ x ∈ L) :
    Calls Try.prog 57 #[.slice ao L.length c, .int .i64 x] w fun e w' => e = .returned (.bool B) ∧ w' = w := by
  have cx := ixI_any ao c L x w h
  have HB := Lib.hid hB
  clear hB
  go_enter Try.func57, Try.ntmps57
  go_wp2_with (go_at_call 42; ((with_reducible refine cx.mono ?_); clear cx; rintro e w2 ⟨⟨n, rfl, hn⟩, rfl⟩))
  have hd : decide (0 ≤ n) = B := by
    rcases hn with ⟨rfl, hn⟩ | ⟨i, rfl, _, hi, _⟩
    · cases B
      · rfl
      · exact absurd (HB.out.1 rfl) hn
    · rw [HB.out.2 (List.mem_of_getElem? hi)]; exact decide_eq_true (by omega)
  go_ret
  exact ⟨by rw [hd]; rfl, rfl⟩

/-- adapt.isLeaf. -/
theorem ailf_any (t : Int) (a : Option Addr) (cap : Nat) (N : List Nd) (y : Int) (w : World) (hN : Ns w a cap N) (hsm : Small N) (B : Bool) (hB : B = true ↔ ∃ s i, LfAt N t y s i) :
    Calls Try.prog 29 #[trv t a cap N, .int .i64 y] w fun e w' => e = .returned (.bool B) ∧ Below w.heap.size w w' := by
  obtain ⟨ls, hls⟩ := lvO_ex N t
  have b1 : Below w.heap.size w (w.alloc (.cells #[.int .i64 t, .slice a N.length cap] 24)) := al1 _
  have cl := tleaves_any t a cap N _ (hN.keep b1) hsm ls hls
  have hB2 : B = true ↔ y ∈ preI ls := by
    rw [hB]
    unfold preI
    rw [List.mem_map]
    rcases hls with ⟨s, h, rfl⟩ | ⟨h, rfl⟩
    · constructor
      · rintro ⟨s', i, h1, h2, h3⟩
        have := h.uniq h1
        subst this
        exact ⟨i, h3, h2.symm⟩
      · rintro ⟨i, h1, h2⟩
        exact ⟨s, i, h, h2.symm, h1⟩
    · constructor
      · rintro ⟨s', i, h1, _⟩
        exact absurd h1 (h s')
      · rintro ⟨i, h1, _⟩
        cases h1
  have HB := Lib.hid b1
  have HX := Lib.hid hB2
  have hpl := preI_len ls
  have cc := fun (ao : Option Addr) (c : Nat) (W : World) (h : RI W ao c (preI ls)) => ctI_any ao c (preI ls) y W h B hB2
  simp only [hpl] at cc
  unfold trv LvIs at cl
  unfold trv
  clear b1 hB hB2 hls hN hpl
  go_enter Try.func29, Try.ntmps29
  go_wp2_with (first
    | (go_at_call 21; ((with_reducible refine cl.mono ?_); clear cl; rintro e w3 ⟨ao, c, rfl, hr, hb3⟩; have HR := Lib.hid hr; have HB3 := Lib.hid (bel2 HB.out hb3); clear hr hb3))
    | (go_at_call 57; ((with_reducible refine (cc _ _ _ HR.out).mono ?_); clear cc; rintro e w4 ⟨rfl, rfl⟩))
    | fail)
  go_ret
  exact ⟨rfl, HB3.out⟩

/-- Is it the route above that place? -/
def isPar (n : Nd) (y : Int) : Bool := n.r && (n.a == y || n.b == y)
set_option maxRecDepth 100000 in
set_option maxHeartbeats 3200000 in
theorem abv1_any (n : Nd) (pa : Option Addr) (pc : Nat) (y : Int) (q : Nat) (w : World) (hq : w.cell? ⟨q, 0, none⟩ = some (.int .i64 y)) (B : Bool) (hB : isPar n y = B) :
    Calls Try.prog 61 #[ndv n pa pc, .pointer (some ⟨q, 0, none⟩)] w fun e w' => e = .returned (.bool B) ∧ Below w.heap.size w w' := by
  have hql := World.block_lt_of_cell? w _ hq
  have hb : Below w.heap.size w (w.alloc (.cells #[.bool n.r, .int .i64 n.k, .int .i64 n.a, .int .i64 n.b, .slice pa n.p.length pc, .int .i64 n.s] 47)) := al1 _
  have HB := Lib.hid hb
  have q1 := kc hb hq
  obtain ⟨r, k, l, bb, p, st⟩ := n
  unfold ndv
  dsimp only at q1 HB ⊢
  unfold isPar at hB
  dsimp only at hB
  generalize p.length = pl at *
  clear hb hq hql
  cases r
  · subst hB
    go_enter Try.func61, Try.ntmps61
    go_wp2_with (fail)
    go_ret
    exact ⟨rfl, HB.out⟩
  · by_cases h1 : l = y
    · subst h1
      obtain rfl : B = true := by rw [← hB]; simp
      clear hB
      go_enter Try.func61, Try.ntmps61
      go_wp2_with (fail)
      go_ret
      exact ⟨rfl, HB.out⟩
    · have h1' : (l == y) = false := by simp [h1]
      by_cases h2 : bb = y
      · subst h2
        obtain rfl : B = true := by rw [← hB]; simp
        clear hB
        go_enter Try.func61, Try.ntmps61
        go_wp2_with (fail)
        go_ret
        exact ⟨rfl, HB.out⟩
      · have h2' : (bb == y) = false := by simp [h2]
        obtain rfl : B = false := by rw [← hB, h1', h2']; rfl
        clear hB
        go_enter Try.func61, Try.ntmps61
        go_wp2_with (fail)
        go_ret
        exact ⟨rfl, HB.out⟩
/-- Which route is above, if one is. -/
def PaO (N : List Nd) (y n : Int) : Prop := (n = -1 ∧ ∀ m ∈ N, isPar m y = false) ∨ ∃ (i : Nat) (m : Nd), n = i ∧ N[i]? = some m ∧ isPar m y = true ∧ ∀ z ∈ N.take i, isPar z y = false
set_option maxRecDepth 100000 in
set_option maxHeartbeats 6400000 in
theorem ixA_any (a : Option Addr) (cap : Nat) (N : List Nd) (y : Int) (q : Nat) (w : World) (hN : Ns w a cap N) (hl : N.length ≤ 10000) (hq : w.cell? ⟨q, 0, none⟩ = some (.int .i64 y)) :
    Calls Try.prog 60 #[.slice a N.length cap, .func (.func 61) #[] #[.pointer (some ⟨q, 0, none⟩)]] w fun e w' => (∃ n : Int, e = .returned (.int .i64 n) ∧ PaO N y n) ∧ Below w.heap.size w w' := by
  have HN := Lib.hid hN
  have HQ := Lib.hid hq
  have hc1 := hN.1
  have hc2 := hN.2.1
  clear hN hq
  unfold maxLen at hc2
  go_enter Try.func60, Try.ntmps60
  go_wp2_with (fail)
  go_loopw [8] (fun i wr => ∃ n : Nat, n ≤ N.length ∧ i = .int .i64 n ∧ (∀ z ∈ N.take n, isPar z y = false) ∧ Below w.heap.size w wr) (fun i _ => N.length - (intOf i).toNat)
  case atStart => exact ⟨0, Nat.zero_le _, rfl, by simp, Below.refl _ _⟩
  case round =>
    obtain ⟨n, hn, rfl, hno, hb⟩ := hrel
    have HNO := Lib.hid hno
    have HBB := Lib.hid hb
    clear hno
    by_cases hlt : n < N.length
    · obtain ⟨x, hx⟩ : ∃ x, N[n]? = some x := ⟨_, List.getElem?_eq_getElem hlt⟩
      obtain ⟨b, o, pa, pc, rfl, hx1⟩ := (HN.out.keep hb).2.2 n x hx
      have HX := Lib.hid hx
      obtain ⟨e0, e1, e2, e3, e4, e5, -⟩ := hx1
      have c := abv1_any x pa pc y q _ (kc hb HQ.out)
      have hn0 : (0 : Int) ≤ (n : Int) := by omega
      have hnl : (n : Int) < (N.length : Int) := by omega
      clear hx hb
      unfold ndv at c
      cases hr : isPar x y with
      | true =>
        have c := c true hr
        have HRR := Lib.hid hr
        clear hr
        go_wp2_with (go_at_call 61; ((with_reducible refine c.mono ?_); clear c; rintro e w2 ⟨rfl, hb2⟩))
        go_ret
        exact ⟨⟨_, rfl, .inr ⟨n, x, rfl, HX.out, HRR.out, HNO.out⟩⟩, bel2 HBB.out hb2⟩
      | false =>
        have c := c false hr
        have HRR := Lib.hid hr
        clear hr
        go_wp2_with (go_at_call 61; ((with_reducible refine c.mono ?_); clear c; rintro e w2 ⟨rfl, hb2⟩))
        go_roundw
        case rel =>
          refine ⟨n + 1, by omega, by go_num, fun z hz => ?_, bel2 HBB.out hb2⟩
          rw [List.take_succ, HX.out] at hz
          simp at hz
          rcases hz with hz | rfl
          · exact HNO.out z hz
          · exact HRR.out
        case measure => simp [intOf]; omega
    · obtain rfl : n = N.length := by omega
      go_wp2_with (fail)
      go_ret
      exact ⟨⟨_, rfl, .inl ⟨rfl, fun x hx => HNO.out x (by rw [List.take_of_length_le (Nat.le_refl _)]; exact hx)⟩⟩, HBB.out⟩
/-- adapt.above. -/
theorem above_any (t : Int) (a : Option Addr) (cap : Nat) (N : List Nd) (y : Int) (w : World) (hN : Ns w a cap N) (hl : N.length ≤ 10000) (u : Int) (B : Bool) (hu : ∀ n, PaO N y n → n = u) (hB : decide (0 ≤ u) = B) :
    Calls Try.prog 35 #[trv t a cap N, .int .i64 y] w fun e w' => e = .returned (.tuple #[.int .i64 u, .bool B]) ∧ Below w.heap.size w w' := by
  have b1 : Below w.heap.size w ((w.alloc (.cells #[.int .i64 t, .slice a N.length cap] 24)).alloc (.cells #[.int .i64 y] 3)) := bel1 (al1 _) _
  have hy : ((w.alloc (.cells #[.int .i64 t, .slice a N.length cap] 24)).alloc (.cells #[.int .i64 y] 3)).cell? ⟨w.heap.size + 1, 0, none⟩ = some (.int .i64 y) := by simp [go_sem]
  have c := ixA_any a cap N y _ _ (hN.keep b1) hl hy
  have HB := Lib.hid b1
  have HU := Lib.hid hu
  have HD := Lib.hid hB
  unfold trv
  clear b1 hN hu hy hB
  go_enter Try.func35, Try.ntmps35
  go_wp2_with (go_at_call 60; ((with_reducible refine c.mono ?_); clear c; rintro e w2 ⟨⟨n, rfl, hn⟩, hb2⟩; obtain rfl := HU.out n hn))
  exact bodyPost_ret (v := .tuple #[.int .i64 n, .bool B]) (by simp [results, Try.results35, go_sem, HD.out]) rfl ⟨rfl, bel2 HB.out hb2⟩
#print axioms above_any
end Go.Proofs.Yteebceecohhegaa
