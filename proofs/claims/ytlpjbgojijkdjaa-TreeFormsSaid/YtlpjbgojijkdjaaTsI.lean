/- tree.Set exactly. No condition: lemmas. -/
import Derived.Test.YtlpjbgojijkdjaaTrJ
import Derived.Test.YtlpjbgojijkdjaaTrK
namespace Go.Proofs.Ytlpjbgojijkdjaa
open Go.RowKit
set_option linter.all false

attribute [local go_sem] mkN_run
/-- The leaf that Set sets. -/
def lfn (l : List Pr) (st : Int) : Nd := ⟨false, 0, 0, 0, l, st⟩
/-- What Set tells. -/
def SetIs (w : World) (r : Int) (Q : List Nd) (x : Bool) (e : Ending) (w' : World) : Prop := ∃ ao cp, e = .returned (.tuple #[.agg #[.int .i64 r, .slice ao Q.length cp], .bool x]) ∧ Ns w' ao cp Q ∧ Below w.heap.size w w'
/-- Set's answer. -/
def SetO (N : List Nd) (t : Int) (y : Int) (l : List Pr) (st : Int) (r : Int) (Q : List Nd) (x : Bool) : Prop :=
  (x = true ∧ r = t ∧ (∃ s, Tr N s t) ∧ ∃ (j : Nat) (n : Nd), y = j ∧ N[j]? = some n ∧ n.r = false ∧ Q = N.set j (lfn l st) ∧ ∃ s, Tr Q s t) ∨
  (x = false ∧ r = 0 ∧ Q = [] ∧ ¬ ((∃ s, Tr N s t) ∧ ∃ (j : Nat) (n : Nd), y = j ∧ N[j]? = some n ∧ n.r = false ∧ ∃ s, Tr (N.set j (lfn l st)) s t))
theorem setO_ex (N : List Nd) (t y : Int) (l : List Pr) (st : Int) : ∃ r Q x, SetO N t y l st r Q x := by
  rcases Classical.em ((∃ s, Tr N s t) ∧ ∃ (j : Nat) (n : Nd), y = j ∧ N[j]? = some n ∧ n.r = false ∧ ∃ s, Tr (N.set j (lfn l st)) s t) with ⟨h, j, n, h1, h2, h3, h4⟩ | h
  · exact ⟨t, _, true, .inl ⟨rfl, rfl, h, j, n, h1, h2, h3, rfl, h4⟩⟩
  · exact ⟨0, [], false, .inr ⟨rfl, rfl, rfl, h⟩⟩

set_option maxRecDepth 100000 in
set_option maxHeartbeats 6400000 in
theorem tset_no (t : Int) (a : Option Addr) (cap : Nat) (N : List Nd) (y : Int) (pa : Option Addr) (pc : Nat) (l : List Pr) (st : Int) (w : World) (hN : Ns w a cap N) (hsm : Small N)
    (h : (∀ s, ¬ Tr N s t) ∨ (∃ s, Tr N s t) ∧ ∀ (j : Nat) (n : Nd), y = j → N[j]? = some n → n.r = true) :
    Calls Try.prog 13 #[trv t a cap N, .int .i64 y, .slice pa l.length pc, .int .i64 st] w (SetIs w 0 [] false) := by
  have hl1 := hsm.1
  have hc1 := hN.1
  have hc2 := hN.2.1
  unfold maxLen at hc2
  have b2 : Below w.heap.size w ((w.alloc (.cells #[.int .i64 t, .slice a N.length cap] 24)).alloc (.cells #[.int .i64 0, .slice none 0 0] 24)) := bel1 (al1 _) _
  have cm := fun B hB => tmay_any t a cap N _ (hN.keep b2) hsm B hB
  have B1 := Lib.hid (Bk.past (Bk.new w #[.int .i64 t, .slice a N.length cap] 24) (.cells #[.int .i64 0, .slice none 0 0] 24))
  have B2 := Lib.hid (show Bk ((w.alloc (.cells #[.int .i64 t, .slice a N.length cap] 24)).alloc (.cells #[.int .i64 0, .slice none 0 0] 24)) (w.heap.size + 1) [.int .i64 0, .slice none 0 0] from by
    have h := Bk.new (w.alloc (.cells #[.int .i64 t, .slice a N.length cap] 24)) #[.int .i64 0, .slice none 0 0] 24
    simp only [World.size_alloc] at h; exact h)
  have HB := Lib.hid b2
  have HN := Lib.hid hN
  unfold trv at cm ⊢
  clear b2 hN
  rcases h with h | ⟨h, h2⟩
  · have cm' := cm false ⟨fun h => (by cases h), fun ⟨s, hs⟩ => absurd hs (h s)⟩
    clear cm h hc1 hc2 hl1
    go_enter Try.func13, Try.ntmps13
    go_wp2_with (go_at_call 16; ((with_reducible refine cm'.mono ?_); clear cm'; rintro e w3 ⟨rfl, hb3⟩; have R2 := Lib.hid (B2.out.keep hb3); have HR := Lib.hid hb3; clear hb3; have g0 := R2.out.fr 0; have g1 := R2.out.fr 1; have m0 := R2.out.at_ 0 _ rfl; have m1 := R2.out.at_ 1 _ rfl))
    refine bodyPost_ret (v := .tuple #[.agg #[.int .i64 0, .slice none 0 0], .bool false]) (by simp [results, Try.results13, go_sem, m0, m1]) rfl ⟨none, 0, rfl, Ns.none _, ?_⟩
    repeat' (first | refine Below.setCell ?_ (by dsimp only; omega) _ | exact bel2 HB.out HR.out)
  · have cm' := cm true ⟨fun _ => h, fun _ => rfl⟩
    clear cm h
    by_cases h0 : y < 0
    · have h0' : decide (y < 0) = true := decide_eq_true h0
      clear h2 h0 hc1 hc2 hl1
      go_enter Try.func13, Try.ntmps13
      go_wp2_with (go_at_call 16; ((with_reducible refine cm'.mono ?_); clear cm'; rintro e w3 ⟨rfl, hb3⟩; have R2 := Lib.hid (B2.out.keep hb3); have HR := Lib.hid hb3; clear hb3; have g0 := R2.out.fr 0; have g1 := R2.out.fr 1; have m0 := R2.out.at_ 0 _ rfl; have m1 := R2.out.at_ 1 _ rfl))
      refine bodyPost_ret (v := .tuple #[.agg #[.int .i64 0, .slice none 0 0], .bool false]) (by simp [results, Try.results13, go_sem, m0, m1]) rfl ⟨none, 0, rfl, Ns.none _, ?_⟩
      repeat' (first | refine Below.setCell ?_ (by dsimp only; omega) _ | exact bel2 HB.out HR.out)
    · by_cases h1 : (N.length : Int) ≤ y
      · have h0' : decide (y < 0) = false := decide_eq_false h0
        have h1' : decide ((N.length : Int) ≤ y) = true := decide_eq_true h1
        clear h2 h0 h1 hc1 hc2 hl1
        go_enter Try.func13, Try.ntmps13
        go_wp2_with (go_at_call 16; ((with_reducible refine cm'.mono ?_); clear cm'; rintro e w3 ⟨rfl, hb3⟩; have R2 := Lib.hid (B2.out.keep hb3); have HR := Lib.hid hb3; have x1 := (B1.out.keep hb3).at_ 1 _ rfl; clear hb3; have g0 := R2.out.fr 0; have g1 := R2.out.fr 1; have m0 := R2.out.at_ 0 _ rfl; have m1 := R2.out.at_ 1 _ rfl))
        refine bodyPost_ret (v := .tuple #[.agg #[.int .i64 0, .slice none 0 0], .bool false]) (by simp [results, Try.results13, go_sem, m0, m1]) rfl ⟨none, 0, rfl, Ns.none _, ?_⟩
        repeat' (first | refine Below.setCell ?_ (by dsimp only; omega) _ | exact bel2 HB.out HR.out)
      · obtain ⟨j, rfl⟩ : ∃ j : Nat, y = j := ⟨y.toNat, by omega⟩
        have hj : j < N.length := by omega
        obtain ⟨n, hn⟩ : ∃ n, N[j]? = some n := ⟨_, List.getElem?_eq_getElem hj⟩
        have hr := h2 j n rfl hn
        obtain ⟨b, o, qa, qc, rfl, hna⟩ := HN.out.2.2 j n hn
        have h0' : decide ((j : Int) < 0) = false := decide_eq_false h0
        have h1' : decide ((N.length : Int) ≤ (j : Int)) = false := decide_eq_false h1
        have hj0 : (0 : Int) ≤ (j : Int) := by omega
        have hj1 : (j : Int) < (N.length : Int) := by omega
        have HA := Lib.hid hna
        have e0 := hna.c0
        rw [hr] at e0
        have HE := Lib.hid e0
        clear h2 h0 h1 hl1 hna hr e0 hn
        go_enter Try.func13, Try.ntmps13
        go_wp2_with (go_at_call 16; ((with_reducible refine cm'.mono ?_); clear cm'; rintro e w3 ⟨rfl, hb3⟩; have R2 := Lib.hid (B2.out.keep hb3); have HR := Lib.hid hb3; have x1 := (B1.out.keep hb3).at_ 1 _ rfl; have x2 := kc (bel2 HB.out hb3) HE.out; clear hb3; have g0 := R2.out.fr 0; have g1 := R2.out.fr 1; have m0 := R2.out.at_ 0 _ rfl; have m1 := R2.out.at_ 1 _ rfl))
        refine bodyPost_ret (v := .tuple #[.agg #[.int .i64 0, .slice none 0 0], .bool false]) (by simp [results, Try.results13, go_sem, m0, m1]) rfl ⟨none, 0, rfl, Ns.none _, ?_⟩
        repeat' (first | refine Below.setCell ?_ (by dsimp only; omega) _ | exact bel2 HB.out HR.out)
#print axioms tset_no
end Go.Proofs.Ytlpjbgojijkdjaa
