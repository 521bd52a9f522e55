/- osierref1.isLeaf exactly. No condition: lemmas. -/
import Derived.Test.YtlpjbgojijkdjaaTsF
import Derived.Test.YtlpjbgojijkdjaaTsJ
namespace Go.Proofs.Ytlpjbgojijkdjaa
open Go.RowKit
set_option linter.all false

set_option maxRecDepth 100000 in
set_option maxHeartbeats 6400000 in
theorem isleaf_any (t : Int) (a : Option Addr) (cap : Nat) (N : List Nd) (w : World) (hN : Ns w a cap N) (hsm : Small N) (y : Int) (B : Bool)
    (hB : B = true ↔ (∃ s, Tr N s t) ∧ ∃ (j : Nat) (n : Nd), y = j ∧ N[j]? = some n ∧ n.r = false) :
    Calls Try.prog 38 #[trv t a cap N, .int .i64 y] w fun e w' => e = .returned (.bool B) ∧ Below w.heap.size w w' := by
  obtain ⟨x, P, hP⟩ := plO_ex N t
  have hl1 := hsm.1
  have hc1 := hN.1
  have hc2 := hN.2.1
  unfold maxLen at hc2
  have b1 : Below w.heap.size w (w.alloc (.cells #[.int .i64 t, .slice a N.length cap] 24)) := al1 _
  have cp := rp_any hsm hP _ (hN.keep b1)
  unfold PlB at cp
  have B1 := Lib.hid (Bk.new w #[.int .i64 t, .slice a N.length cap] 24)
  have HB := Lib.hid b1
  have HN := Lib.hid hN
  have hx := hP.tr
  have ARM : True := trivial
  unfold trv at cp ⊢
  clear b1 hN hP ARM
  cases x
  · obtain rfl : B = false := by
      cases B
      · rfl
      · have := hx.2 (hB.1 rfl).1; cases this
    clear hx hB hc1 hc2 hl1
    go_enter Try.func38, Try.ntmps38
    go_wp2_with (go_at_call 12; ((with_reducible refine cp.mono ?_); clear cp; rintro e w3 ⟨ao, cpp, rfl, -, hb3⟩; have HR := Lib.hid (bel1 (bel2 HB.out hb3) (.cells #[.int .i64 0, .slice ao P.length cpp] 24)); clear hb3))
    go_ret
    exact ⟨rfl, HR.out⟩
  · have ht := hx.1 rfl
    by_cases h0 : 0 ≤ y
    case neg =>
      obtain rfl : B = false := by
        cases B
        · rfl
        · obtain ⟨-, j, n, e, -⟩ := hB.1 rfl; omega
      have h0' : decide (0 ≤ y) = false := decide_eq_false h0
      clear hx hB hc1 hc2 hl1 ht h0
      go_enter Try.func38, Try.ntmps38
      go_wp2_with (go_at_call 12; ((with_reducible refine cp.mono ?_); clear cp; rintro e w3 ⟨ao, cpp, rfl, -, hb3⟩; have HR := Lib.hid (bel1 (bel2 HB.out hb3) (.cells #[.int .i64 0, .slice ao P.length cpp] 24)); clear hb3))
      go_ret
      exact ⟨rfl, HR.out⟩
    case pos =>
      have h0' : decide (0 ≤ y) = true := decide_eq_true h0
      by_cases h1 : y < (N.length : Int)
      case neg =>
        obtain rfl : B = false := by
          cases B
          · rfl
          · obtain ⟨-, j, n, e, hn, -⟩ := hB.1 rfl
            have := (List.getElem?_eq_some_iff.1 hn).1
            omega
        have h1' : decide (y < (N.length : Int)) = false := decide_eq_false h1
        clear hx hB hc1 hc2 hl1 ht h0 h1
        go_enter Try.func38, Try.ntmps38
        go_wp2_with (go_at_call 12; ((with_reducible refine cp.mono ?_); clear cp; rintro e w3 ⟨ao, cpp, rfl, -, hb3⟩; have HR := Lib.hid (bel1 (bel2 HB.out hb3) (.cells #[.int .i64 0, .slice ao P.length cpp] 24)); have g1 := ((B1.out.keep hb3).past (.cells #[.int .i64 0, .slice ao P.length cpp] 24)).at_ 1 _ rfl; clear hb3))
        go_ret
        exact ⟨rfl, HR.out⟩
      case pos =>
        obtain ⟨j, rfl⟩ : ∃ j : Nat, y = j := ⟨y.toNat, by omega⟩
        have hj : j < N.length := by omega
        obtain ⟨n, hn⟩ : ∃ n, N[j]? = some n := ⟨_, List.getElem?_eq_getElem hj⟩
        have hBr : B = !n.r := by
          cases hr : n.r
          · exact hB.2 ⟨ht, j, n, rfl, hn, hr⟩
          · cases B
            · rfl
            · obtain ⟨-, j', n', e, hn', hr'⟩ := hB.1 rfl
              obtain rfl : j = j' := by omega
              rw [hn] at hn'; cases hn'
              rw [hr] at hr'; cases hr'
        obtain ⟨b, o, qa, qc, rfl, hna⟩ := HN.out.2.2 j n hn
        have HE := Lib.hid hna.c0
        have h1' : decide (j < N.length) = true := decide_eq_true hj
        have hj0 : (0 : Int) ≤ (j : Int) := by omega
        have hj1 : (j : Int) < (N.length : Int) := by omega
        have HBR := Lib.hid hBr
        generalize n.r = r at *
        clear hx hB hl1 ht hna hn hBr
        go_enter Try.func38, Try.ntmps38
        go_wp2_with (go_at_call 12; ((with_reducible refine cp.mono ?_); clear cp; rintro e w3 ⟨ao, cpp, rfl, -, hb3⟩; have HR := Lib.hid (bel1 (bel2 HB.out hb3) (.cells #[.int .i64 0, .slice ao P.length cpp] 24)); have g1 := ((B1.out.keep hb3).past (.cells #[.int .i64 0, .slice ao P.length cpp] 24)).at_ 1 _ rfl; have x2 := kc HR.out HE.out; clear hb3))
        go_ret
        rw [HBR.out]
        exact ⟨rfl, HR.out⟩
#print axioms isleaf_any
end Go.Proofs.Ytlpjbgojijkdjaa
