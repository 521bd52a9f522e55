/- lin.returned, refused, whole, mayCome. No condition: lemmas. lin.spot: what tells whether a search comes through. No condition: lemmas. -/
import Derived.Test.YtadfnbmogobopaaOrB
import Derived.Test.YtadfnbmogobopaaLiM
import Derived.Deep.MidRow
import Derived.Deep.WholeRow
namespace Go.Proofs.Ytadfnbmogobopaa
open Go.RowKit
set_option linter.all false
set_option maxRecDepth 20000

/-- Which calls are named, as the program holds it. -/
def bitsA (S : Nat → Bool) : Array Value := (vtv (fun i => .bool (S i)) 16).toArray
theorem bits_new (W : World) (S : Nat → Bool) : Bq (W.alloc (.cells (bitsA S) 60)) W.heap.size (vtv (fun i => .bool (S i)) 16) := Bq.new W (bitsA S) _
set_option maxRecDepth 100000 in
set_option maxHeartbeats 6400000 in
theorem lnret_any (m : ClD) (pa : Option Addr) (pc : Nat) (w : World) (B : Bool) (hB : decide (0 ≤ m.g) = B) : Calls Try.prog 35 #[clV m pa pc] w fun e w' => e = .returned (.bool B) ∧ Below w.heap.size w w' := by
  obtain ⟨t, f, g, ⟨oc, ok, oh, ov⟩, ⟨ae, ao, ak, av, an, ap⟩⟩ := m
  unfold clV
  dsimp only at hB ⊢
  have HB := Lib.hid hB
  clear hB
  go_enter Try.func35, Try.ntmps35
  go_wp2_with (fail)
  go_ret
  exact ⟨by rw [← HB.out]; rfl, pal _⟩
set_option maxRecDepth 100000 in
set_option maxHeartbeats 6400000 in
theorem lnref_any (m : ClD) (pa : Option Addr) (pc : Nat) (w : World) (B : Bool) (hB : decide (¬ m.a.err = 0) = B) : Calls Try.prog 31 #[clV m pa pc] w fun e w' => e = .returned (.bool B) ∧ Below w.heap.size w w' := by
  obtain ⟨t, f, g, ⟨oc, ok, oh, ov⟩, ⟨ae, ao, ak, av, an, ap⟩⟩ := m
  unfold clV
  dsimp only at hB ⊢
  have HB := Lib.hid hB
  clear hB
  go_enter Try.func31, Try.ntmps31
  go_wp2_with (fail)
  go_ret
  refine ⟨?_, pal _⟩
  rw [← HB.out]
  by_cases h : ae = 0 <;> simp [h]

/-- None that must be is left among the first n. -/
def noL (L : List ClD) (S : Nat → Bool) (n : Nat) : Prop := ∀ i, i < n → must (L.getD i zCl) → S i = true
theorem noL_all {L : List ClD} {S : Nat → Bool} : noL L S L.length ↔ ¬ lft L S := by
  constructor
  · rintro h ⟨i, h1, h2, h3⟩
    rw [h i h1 h3] at h2; cases h2
  · intro h i hi hm
    cases c : S i
    · exact absurd ⟨i, hi, c, hm⟩ h
    · rfl
theorem noL_step {L : List ClD} {S : Nat → Bool} {n : Nat} : noL L S (n + 1) ↔ noL L S n ∧ (must (L.getD n zCl) → S n = true) := by
  constructor
  · intro h; exact ⟨fun i hi => h i (by omega), h n (by omega)⟩
  · rintro ⟨h1, h2⟩ i hi
    rcases Nat.lt_or_ge i n with h | h
    · exact h1 i h
    · rw [show i = n by omega]; exact h2

set_option maxRecDepth 100000 in
set_option maxHeartbeats 12800000 in
theorem whole_any (sb : Nat) (a : Option Addr) (cap : Nat) (L : List ClD) (S : Nat → Bool) (w : World) (hs : w.cell? ⟨sb, 0, none⟩ = some (.slice a L.length cap)) (hL : Cs w a cap L) (hn : L.length ≤ 16) (B : Bool) (hB : B = true ↔ ¬ lft L S) :
    Calls Try.prog 29 #[.pointer (some ⟨sb, 0, none⟩), .agg (bitsA S)] w fun e w' => e = .returned (.bool B) ∧ Below w.heap.size w w' := by
  have HC := Lib.hid hL
  have HBB := Lib.hid hB
  have hc1 := hL.1
  have hc2 := hL.2.1
  unfold maxLen at hc2
  have HN0 := Lib.hid (bits_new w S)
  have HB0 := Lib.hid (pal (w := w) (.cells (bitsA S) 60))
  have hsl : sb < w.heap.size := World.block_lt_of_cell? w _ hs
  clear hL hB
  go_enter Try.func29, Try.ntmps29
  go_wp2_with (fail)
  generalize w.alloc (.cells (bitsA S) 60) = W1 at HN0 HB0 ⊢
  go_loopw [12] (fun i wr => ∃ n : Nat, n ≤ L.length ∧ i = .int .i64 n ∧ noL L S n ∧ Bq wr w.heap.size (vtv (fun j => .bool (S j)) 16) ∧ Below w.heap.size w wr) (fun i _ => L.length - (intOf i).toNat)
  case atStart => exact ⟨0, Nat.zero_le _, rfl, fun i hi => by omega, HN0.out, HB0.out⟩
  case round =>
    clear HN0 HB0 hs
    obtain ⟨n, hnl, rfl, hno, hbq, hbe⟩ := hrel
    have HNO := Lib.hid hno
    have HBQ := Lib.hid hbq
    have HBE := Lib.hid hbe
    by_cases hlt : n < L.length
    · obtain ⟨m, hm⟩ : ∃ m, L[n]? = some m := ⟨_, List.getElem?_eq_getElem hlt⟩
      obtain ⟨b, oo, pa, pc, rfl, hca⟩ := (HC.out.keep hbe).2.2 n m hm
      obtain ⟨c0, c1, c2, c3, c4, c5, c6, c7, c8, c9, c10, c11, c12⟩ := hca.ex
      have hn0 : (0 : Int) ≤ (n : Int) := Int.natCast_nonneg n
      have hnI : (n : Int) < (L.length : Int) := Int.ofNat_lt.2 hlt
      have hn16 : (n : Int) < 16 := by omega
      have hgd : L.getD n zCl = m := by rw [List.getD_eq_getElem?_getD, hm]; rfl
      have HGD := Lib.hid hgd
      have hbl := hbq.lt
      have hbn := hbq.at_ n _ (vtv_get (by omega))
      try dsimp only at hbn
      clear hm hca hgd hno hbq hbe
      obtain ⟨V, hV⟩ : ∃ V : Bool, S n = V := ⟨_, rfl⟩
      obtain ⟨G, hG⟩ : ∃ G : Bool, decide (0 ≤ m.g) = G := ⟨_, rfl⟩
      obtain ⟨F, hF⟩ : ∃ F : Bool, decide (¬ m.a.err = 0) = F := ⟨_, rfl⟩
      have cr := fun W => lnret_any m pa pc W G hG
      have cf := fun W => lnref_any m pa pc W F hF
      have HST : Hid (noL L S (n + 1) ↔ (G && !F && !V) = false) := Lib.hid (by
        rw [noL_step, HGD.out]
        unfold must
        rw [hV]
        subst hG
        subst hF
        constructor
        · intro h
          have := h.2
          by_cases h1 : 0 ≤ m.g
          · by_cases h2 : m.a.err = 0
            · rw [this ⟨h1, h2⟩]; simp
            · simp [h2]
          · simp [h1]
        · intro h
          refine ⟨HNO.out, fun hm => ?_⟩
          simpa [hm.1, hm.2] using h)
      have HV := Lib.hid hV
      have hn16n : n < 16 := by omega
      clear hG hF hV
      obtain ⟨t, f, g, ⟨oc, ok, oh, ov⟩, ⟨ae, ao, ak, av, an, ap⟩⟩ := m
      unfold clV at cr cf
      dsimp only at c0 c1 c2 c3 c4 c5 c6 c7 c8 c9 c10 c11 c12 cr cf
      have hb0 := pal (w := wr) (.cells #[.int .i64 t, .int .i64 f, .int .i64 g, .int .i64 oc, .int .i64 ok, .int .i64 oh, .int .i64 ov, .int .i64 ae, .bool ao, .int .i64 ak, .int .i64 av, .int .i64 an, .slice pa ap.length pc] 71)
      have HB0 := Lib.hid (pb2 HBE.out hb0)
      have HN0 := Lib.hid (HBQ.out.keep hb0)
      have HQ0 := Lib.hid (Bq.new wr #[.int .i64 t, .int .i64 f, .int .i64 g, .int .i64 oc, .int .i64 ok, .int .i64 oh, .int .i64 ov, .int .i64 ae, .bool ao, .int .i64 ak, .int .i64 av, .int .i64 an, .slice pa ap.length pc] 71)
      have HBf : Hid ((G && !F && !V) = true → B = false) := Lib.hid (fun x => by
        cases B
        · rfl
        · have h1 := noL_all.2 (HBB.out.1 rfl)
          have h2 : noL L S (n + 1) := fun i hi => h1 i (by omega)
          have h3 := HST.out.1 h2
          rw [x] at h3; cases h3)
      clear hb0 hbn HBE HBQ
      cases G <;> cases F <;> cases V
      · go_wp2_with (first | (go_at_call 35; ((with_reducible refine (cr _).mono ?_); rintro e Y ⟨rfl, hbY⟩; have hq := HQ0.out.keep hbY; have HQ1 := Lib.hid hq; have HN1 := Lib.hid (HN0.out.keep hbY); have HB1 := Lib.hid (pb2 HB0.out hbY); have q0 := hq.at_ 0 _ rfl; have q1 := hq.at_ 1 _ rfl; have q2 := hq.at_ 2 _ rfl; have q3 := hq.at_ 3 _ rfl; have q4 := hq.at_ 4 _ rfl; have q5 := hq.at_ 5 _ rfl; have q6 := hq.at_ 6 _ rfl; have q7 := hq.at_ 7 _ rfl; have q8 := hq.at_ 8 _ rfl; have q9 := hq.at_ 9 _ rfl; have q10 := hq.at_ 10 _ rfl; have q11 := hq.at_ 11 _ rfl; have q12 := hq.at_ 12 _ rfl; have hbn := HN1.out.at_ n _ (vtv_get hn16n); (try dsimp only at hbn); rw [HV.out] at hbn; clear hq hbY)) | (go_at_call 31; ((with_reducible refine (cf _).mono ?_); rintro e Z ⟨rfl, hbZ⟩; clear q0 q1 q2 q3 q4 q5 q6 q7 q8 q9 q10 q11 q12 hbn; have HN2 := Lib.hid (HN1.out.keep hbZ); have HB2 := Lib.hid (pb2 HB1.out hbZ); have hbn := HN2.out.at_ n _ (vtv_get hn16n); (try dsimp only at hbn); rw [HV.out] at hbn; clear hbZ)))
        go_roundw
        case rel => exact ⟨n + 1, by omega, by go_num, HST.out.2 (by rfl), HN1.out, HB1.out⟩
        case measure => simp [intOf]; omega
      · go_wp2_with (first | (go_at_call 35; ((with_reducible refine (cr _).mono ?_); rintro e Y ⟨rfl, hbY⟩; have hq := HQ0.out.keep hbY; have HQ1 := Lib.hid hq; have HN1 := Lib.hid (HN0.out.keep hbY); have HB1 := Lib.hid (pb2 HB0.out hbY); have q0 := hq.at_ 0 _ rfl; have q1 := hq.at_ 1 _ rfl; have q2 := hq.at_ 2 _ rfl; have q3 := hq.at_ 3 _ rfl; have q4 := hq.at_ 4 _ rfl; have q5 := hq.at_ 5 _ rfl; have q6 := hq.at_ 6 _ rfl; have q7 := hq.at_ 7 _ rfl; have q8 := hq.at_ 8 _ rfl; have q9 := hq.at_ 9 _ rfl; have q10 := hq.at_ 10 _ rfl; have q11 := hq.at_ 11 _ rfl; have q12 := hq.at_ 12 _ rfl; have hbn := HN1.out.at_ n _ (vtv_get hn16n); (try dsimp only at hbn); rw [HV.out] at hbn; clear hq hbY)) | (go_at_call 31; ((with_reducible refine (cf _).mono ?_); rintro e Z ⟨rfl, hbZ⟩; clear q0 q1 q2 q3 q4 q5 q6 q7 q8 q9 q10 q11 q12 hbn; have HN2 := Lib.hid (HN1.out.keep hbZ); have HB2 := Lib.hid (pb2 HB1.out hbZ); have hbn := HN2.out.at_ n _ (vtv_get hn16n); (try dsimp only at hbn); rw [HV.out] at hbn; clear hbZ)))
        go_roundw
        case rel => exact ⟨n + 1, by omega, by go_num, HST.out.2 (by rfl), HN1.out, HB1.out⟩
        case measure => simp [intOf]; omega
      · go_wp2_with (first | (go_at_call 35; ((with_reducible refine (cr _).mono ?_); rintro e Y ⟨rfl, hbY⟩; have hq := HQ0.out.keep hbY; have HQ1 := Lib.hid hq; have HN1 := Lib.hid (HN0.out.keep hbY); have HB1 := Lib.hid (pb2 HB0.out hbY); have q0 := hq.at_ 0 _ rfl; have q1 := hq.at_ 1 _ rfl; have q2 := hq.at_ 2 _ rfl; have q3 := hq.at_ 3 _ rfl; have q4 := hq.at_ 4 _ rfl; have q5 := hq.at_ 5 _ rfl; have q6 := hq.at_ 6 _ rfl; have q7 := hq.at_ 7 _ rfl; have q8 := hq.at_ 8 _ rfl; have q9 := hq.at_ 9 _ rfl; have q10 := hq.at_ 10 _ rfl; have q11 := hq.at_ 11 _ rfl; have q12 := hq.at_ 12 _ rfl; have hbn := HN1.out.at_ n _ (vtv_get hn16n); (try dsimp only at hbn); rw [HV.out] at hbn; clear hq hbY)) | (go_at_call 31; ((with_reducible refine (cf _).mono ?_); rintro e Z ⟨rfl, hbZ⟩; clear q0 q1 q2 q3 q4 q5 q6 q7 q8 q9 q10 q11 q12 hbn; have HN2 := Lib.hid (HN1.out.keep hbZ); have HB2 := Lib.hid (pb2 HB1.out hbZ); have hbn := HN2.out.at_ n _ (vtv_get hn16n); (try dsimp only at hbn); rw [HV.out] at hbn; clear hbZ)))
        go_roundw
        case rel => exact ⟨n + 1, by omega, by go_num, HST.out.2 (by rfl), HN1.out, HB1.out⟩
        case measure => simp [intOf]; omega
      · go_wp2_with (first | (go_at_call 35; ((with_reducible refine (cr _).mono ?_); rintro e Y ⟨rfl, hbY⟩; have hq := HQ0.out.keep hbY; have HQ1 := Lib.hid hq; have HN1 := Lib.hid (HN0.out.keep hbY); have HB1 := Lib.hid (pb2 HB0.out hbY); have q0 := hq.at_ 0 _ rfl; have q1 := hq.at_ 1 _ rfl; have q2 := hq.at_ 2 _ rfl; have q3 := hq.at_ 3 _ rfl; have q4 := hq.at_ 4 _ rfl; have q5 := hq.at_ 5 _ rfl; have q6 := hq.at_ 6 _ rfl; have q7 := hq.at_ 7 _ rfl; have q8 := hq.at_ 8 _ rfl; have q9 := hq.at_ 9 _ rfl; have q10 := hq.at_ 10 _ rfl; have q11 := hq.at_ 11 _ rfl; have q12 := hq.at_ 12 _ rfl; have hbn := HN1.out.at_ n _ (vtv_get hn16n); (try dsimp only at hbn); rw [HV.out] at hbn; clear hq hbY)) | (go_at_call 31; ((with_reducible refine (cf _).mono ?_); rintro e Z ⟨rfl, hbZ⟩; clear q0 q1 q2 q3 q4 q5 q6 q7 q8 q9 q10 q11 q12 hbn; have HN2 := Lib.hid (HN1.out.keep hbZ); have HB2 := Lib.hid (pb2 HB1.out hbZ); have hbn := HN2.out.at_ n _ (vtv_get hn16n); (try dsimp only at hbn); rw [HV.out] at hbn; clear hbZ)))
        go_roundw
        case rel => exact ⟨n + 1, by omega, by go_num, HST.out.2 (by rfl), HN1.out, HB1.out⟩
        case measure => simp [intOf]; omega
      · go_wp2_with (first | (go_at_call 35; ((with_reducible refine (cr _).mono ?_); rintro e Y ⟨rfl, hbY⟩; have hq := HQ0.out.keep hbY; have HQ1 := Lib.hid hq; have HN1 := Lib.hid (HN0.out.keep hbY); have HB1 := Lib.hid (pb2 HB0.out hbY); have q0 := hq.at_ 0 _ rfl; have q1 := hq.at_ 1 _ rfl; have q2 := hq.at_ 2 _ rfl; have q3 := hq.at_ 3 _ rfl; have q4 := hq.at_ 4 _ rfl; have q5 := hq.at_ 5 _ rfl; have q6 := hq.at_ 6 _ rfl; have q7 := hq.at_ 7 _ rfl; have q8 := hq.at_ 8 _ rfl; have q9 := hq.at_ 9 _ rfl; have q10 := hq.at_ 10 _ rfl; have q11 := hq.at_ 11 _ rfl; have q12 := hq.at_ 12 _ rfl; have hbn := HN1.out.at_ n _ (vtv_get hn16n); (try dsimp only at hbn); rw [HV.out] at hbn; clear hq hbY)) | (go_at_call 31; ((with_reducible refine (cf _).mono ?_); rintro e Z ⟨rfl, hbZ⟩; clear q0 q1 q2 q3 q4 q5 q6 q7 q8 q9 q10 q11 q12 hbn; have HN2 := Lib.hid (HN1.out.keep hbZ); have HB2 := Lib.hid (pb2 HB1.out hbZ); have hbn := HN2.out.at_ n _ (vtv_get hn16n); (try dsimp only at hbn); rw [HV.out] at hbn; clear hbZ)))
        go_ret
        exact ⟨by rw [HBf.out (by rfl)]; rfl, HB2.out⟩
      · go_wp2_with (first | (go_at_call 35; ((with_reducible refine (cr _).mono ?_); rintro e Y ⟨rfl, hbY⟩; have hq := HQ0.out.keep hbY; have HQ1 := Lib.hid hq; have HN1 := Lib.hid (HN0.out.keep hbY); have HB1 := Lib.hid (pb2 HB0.out hbY); have q0 := hq.at_ 0 _ rfl; have q1 := hq.at_ 1 _ rfl; have q2 := hq.at_ 2 _ rfl; have q3 := hq.at_ 3 _ rfl; have q4 := hq.at_ 4 _ rfl; have q5 := hq.at_ 5 _ rfl; have q6 := hq.at_ 6 _ rfl; have q7 := hq.at_ 7 _ rfl; have q8 := hq.at_ 8 _ rfl; have q9 := hq.at_ 9 _ rfl; have q10 := hq.at_ 10 _ rfl; have q11 := hq.at_ 11 _ rfl; have q12 := hq.at_ 12 _ rfl; have hbn := HN1.out.at_ n _ (vtv_get hn16n); (try dsimp only at hbn); rw [HV.out] at hbn; clear hq hbY)) | (go_at_call 31; ((with_reducible refine (cf _).mono ?_); rintro e Z ⟨rfl, hbZ⟩; clear q0 q1 q2 q3 q4 q5 q6 q7 q8 q9 q10 q11 q12 hbn; have HN2 := Lib.hid (HN1.out.keep hbZ); have HB2 := Lib.hid (pb2 HB1.out hbZ); have hbn := HN2.out.at_ n _ (vtv_get hn16n); (try dsimp only at hbn); rw [HV.out] at hbn; clear hbZ)))
        go_roundw
        case rel => exact ⟨n + 1, by omega, by go_num, HST.out.2 (by rfl), HN2.out, HB2.out⟩
        case measure => simp [intOf]; omega
      · go_wp2_with (first | (go_at_call 35; ((with_reducible refine (cr _).mono ?_); rintro e Y ⟨rfl, hbY⟩; have hq := HQ0.out.keep hbY; have HQ1 := Lib.hid hq; have HN1 := Lib.hid (HN0.out.keep hbY); have HB1 := Lib.hid (pb2 HB0.out hbY); have q0 := hq.at_ 0 _ rfl; have q1 := hq.at_ 1 _ rfl; have q2 := hq.at_ 2 _ rfl; have q3 := hq.at_ 3 _ rfl; have q4 := hq.at_ 4 _ rfl; have q5 := hq.at_ 5 _ rfl; have q6 := hq.at_ 6 _ rfl; have q7 := hq.at_ 7 _ rfl; have q8 := hq.at_ 8 _ rfl; have q9 := hq.at_ 9 _ rfl; have q10 := hq.at_ 10 _ rfl; have q11 := hq.at_ 11 _ rfl; have q12 := hq.at_ 12 _ rfl; have hbn := HN1.out.at_ n _ (vtv_get hn16n); (try dsimp only at hbn); rw [HV.out] at hbn; clear hq hbY)) | (go_at_call 31; ((with_reducible refine (cf _).mono ?_); rintro e Z ⟨rfl, hbZ⟩; clear q0 q1 q2 q3 q4 q5 q6 q7 q8 q9 q10 q11 q12 hbn; have HN2 := Lib.hid (HN1.out.keep hbZ); have HB2 := Lib.hid (pb2 HB1.out hbZ); have hbn := HN2.out.at_ n _ (vtv_get hn16n); (try dsimp only at hbn); rw [HV.out] at hbn; clear hbZ)))
        go_roundw
        case rel => exact ⟨n + 1, by omega, by go_num, HST.out.2 (by rfl), HN2.out, HB2.out⟩
        case measure => simp [intOf]; omega
      · go_wp2_with (first | (go_at_call 35; ((with_reducible refine (cr _).mono ?_); rintro e Y ⟨rfl, hbY⟩; have hq := HQ0.out.keep hbY; have HQ1 := Lib.hid hq; have HN1 := Lib.hid (HN0.out.keep hbY); have HB1 := Lib.hid (pb2 HB0.out hbY); have q0 := hq.at_ 0 _ rfl; have q1 := hq.at_ 1 _ rfl; have q2 := hq.at_ 2 _ rfl; have q3 := hq.at_ 3 _ rfl; have q4 := hq.at_ 4 _ rfl; have q5 := hq.at_ 5 _ rfl; have q6 := hq.at_ 6 _ rfl; have q7 := hq.at_ 7 _ rfl; have q8 := hq.at_ 8 _ rfl; have q9 := hq.at_ 9 _ rfl; have q10 := hq.at_ 10 _ rfl; have q11 := hq.at_ 11 _ rfl; have q12 := hq.at_ 12 _ rfl; have hbn := HN1.out.at_ n _ (vtv_get hn16n); (try dsimp only at hbn); rw [HV.out] at hbn; clear hq hbY)) | (go_at_call 31; ((with_reducible refine (cf _).mono ?_); rintro e Z ⟨rfl, hbZ⟩; clear q0 q1 q2 q3 q4 q5 q6 q7 q8 q9 q10 q11 q12 hbn; have HN2 := Lib.hid (HN1.out.keep hbZ); have HB2 := Lib.hid (pb2 HB1.out hbZ); have hbn := HN2.out.at_ n _ (vtv_get hn16n); (try dsimp only at hbn); rw [HV.out] at hbn; clear hbZ)))
        go_roundw
        case rel => exact ⟨n + 1, by omega, by go_num, HST.out.2 (by rfl), HN2.out, HB2.out⟩
        case measure => simp [intOf]; omega
    · obtain rfl : n = L.length := by omega
      have hBt : Hid (B = true) := Lib.hid (HBB.out.2 (noL_all.1 HNO.out))
      clear hno hbq hbe
      go_wp2_with (fail)
      go_ret
      exact ⟨by rw [hBt.out]; rfl, HBE.out⟩

/-- None of the first n that must come ahead of it is left. -/
def mayL (L : List ClD) (S : Nat → Bool) (c : ClD) (n : Nat) : Prop := ∀ d, d < n → S d = false → ¬ rfd (L.getD d zCl) → ¬ bef (L.getD d zCl) c
theorem mayL_step {L : List ClD} {S : Nat → Bool} {c : ClD} {n : Nat} : mayL L S c (n + 1) ↔ mayL L S c n ∧ (S n = false → ¬ rfd (L.getD n zCl) → ¬ bef (L.getD n zCl) c) := by
  constructor
  · intro h; exact ⟨fun i hi => h i (by omega), h n (by omega)⟩
  · rintro ⟨h1, h2⟩ i hi
    rcases Nat.lt_or_ge i n with h | h
    · exact h1 i h
    · rw [show i = n by omega]; exact h2
set_option maxRecDepth 100000 in
set_option maxHeartbeats 12800000 in
theorem may_come (sb : Nat) (a : Option Addr) (cap : Nat) (L : List ClD) (S : Nat → Bool) (c : ClD) (pa0 : Option Addr) (pc0 : Nat) (w : World) (hs : w.cell? ⟨sb, 0, none⟩ = some (.slice a L.length cap)) (hL : Cs w a cap L) (hn : L.length ≤ 16) (B : Bool) (hB : B = true ↔ mayL L S c L.length) :
    Calls Try.prog 32 #[.pointer (some ⟨sb, 0, none⟩), clV c pa0 pc0, .agg (bitsA S)] w fun e w' => e = .returned (.bool B) ∧ Below w.heap.size w w' := by
  have HC := Lib.hid hL
  have HBB := Lib.hid hB
  have hc1 := hL.1
  have hc2 := hL.2.1
  unfold maxLen at hc2
  have hsl : sb < w.heap.size := World.block_lt_of_cell? w _ hs
  clear hL hB
  obtain ⟨K, hK⟩ : ∃ K, K = c := ⟨_, rfl⟩
  have HK := Lib.hid hK
  rw [← hK] at HBB
  clear hK
  obtain ⟨t0, f0, g0, ⟨oc0, ok0, oh0, ov0⟩, ⟨ae0, ao0, ak0, av0, an0, ap0⟩⟩ := c
  have HQ0 := Lib.hid (Bq.past (Bq.new w #[.int .i64 t0, .int .i64 f0, .int .i64 g0, .int .i64 oc0, .int .i64 ok0, .int .i64 oh0, .int .i64 ov0, .int .i64 ae0, .bool ao0, .int .i64 ak0, .int .i64 av0, .int .i64 an0, .slice pa0 ap0.length pc0] 71) (.cells (bitsA S) 60))
  have HN0 := Lib.hid (bits_new (w.alloc (.cells #[.int .i64 t0, .int .i64 f0, .int .i64 g0, .int .i64 oc0, .int .i64 ok0, .int .i64 oh0, .int .i64 ov0, .int .i64 ae0, .bool ao0, .int .i64 ak0, .int .i64 av0, .int .i64 an0, .slice pa0 ap0.length pc0] 71)) S)
  rw [show (w.alloc (.cells #[.int .i64 t0, .int .i64 f0, .int .i64 g0, .int .i64 oc0, .int .i64 ok0, .int .i64 oh0, .int .i64 ov0, .int .i64 ae0, .bool ao0, .int .i64 ak0, .int .i64 av0, .int .i64 an0, .slice pa0 ap0.length pc0] 71)).heap.size = w.heap.size + 1 by simp] at HN0
  have HB0 := Lib.hid (pb1 (pal (w := w) (.cells #[.int .i64 t0, .int .i64 f0, .int .i64 g0, .int .i64 oc0, .int .i64 ok0, .int .i64 oh0, .int .i64 ov0, .int .i64 ae0, .bool ao0, .int .i64 ak0, .int .i64 av0, .int .i64 an0, .slice pa0 ap0.length pc0] 71)) (.cells (bitsA S) 60))
  unfold clV
  dsimp only
  go_enter Try.func32, Try.ntmps32
  go_wp2_with (fail)
  generalize (w.alloc (.cells #[.int .i64 t0, .int .i64 f0, .int .i64 g0, .int .i64 oc0, .int .i64 ok0, .int .i64 oh0, .int .i64 ov0, .int .i64 ae0, .bool ao0, .int .i64 ak0, .int .i64 av0, .int .i64 an0, .slice pa0 ap0.length pc0] 71)).alloc (.cells (bitsA S) 60) = W1 at HN0 HQ0 HB0 ⊢
  go_loopw [14] (fun i wr => ∃ n : Nat, n ≤ L.length ∧ i = .int .i64 n ∧ mayL L S K n ∧ Bq wr w.heap.size #[.int .i64 t0, .int .i64 f0, .int .i64 g0, .int .i64 oc0, .int .i64 ok0, .int .i64 oh0, .int .i64 ov0, .int .i64 ae0, .bool ao0, .int .i64 ak0, .int .i64 av0, .int .i64 an0, .slice pa0 ap0.length pc0].toList ∧ Bq wr (w.heap.size + 1) (vtv (fun j => .bool (S j)) 16) ∧ Below w.heap.size w wr) (fun i _ => L.length - (intOf i).toNat)
  case atStart => exact ⟨0, Nat.zero_le _, rfl, fun i hi => by omega, HQ0.out, HN0.out, HB0.out⟩
  case round =>
    clear HN0 HB0 HQ0 hs
    obtain ⟨n, hnl, rfl, hno, hbc, hbq, hbe⟩ := hrel
    have HNO := Lib.hid hno
    have HBC := Lib.hid hbc
    have HBQ := Lib.hid hbq
    have HBE := Lib.hid hbe
    by_cases hlt : n < L.length
    · obtain ⟨m, hm⟩ : ∃ m, L[n]? = some m := ⟨_, List.getElem?_eq_getElem hlt⟩
      obtain ⟨b, oo, pa, pc, rfl, hca⟩ := (HC.out.keep hbe).2.2 n m hm
      obtain ⟨c0, c1, c2, c3, c4, c5, c6, c7, c8, c9, c10, c11, c12⟩ := hca.ex
      have hn0 : (0 : Int) ≤ (n : Int) := Int.natCast_nonneg n
      have hnI : (n : Int) < (L.length : Int) := Int.ofNat_lt.2 hlt
      have hn16 : (n : Int) < 16 := by omega
      have hn16n : n < 16 := by omega
      have hgd : L.getD n zCl = m := by rw [List.getD_eq_getElem?_getD, hm]; rfl
      have HGD := Lib.hid hgd
      have hbl := hbq.lt
      have hbn := hbq.at_ n _ (vtv_get (by omega))
      try dsimp only at hbn
      clear hm hca hgd hno hbq hbe hbc
      obtain ⟨V, hV⟩ : ∃ V : Bool, S n = V := ⟨_, rfl⟩
      have HV := Lib.hid hV
      obtain ⟨G, hG⟩ : ∃ G : Bool, decide (bef m K) = G := ⟨_, rfl⟩
      obtain ⟨F, hF⟩ : ∃ F : Bool, decide (¬ m.a.err = 0) = F := ⟨_, rfl⟩
      have cf := fun W => lnref_any m pa pc W F hF
      have cb := fun W => bef_any m K pa pa0 pc pc0 W G hG
      have HST : Hid (mayL L S K (n + 1) ↔ (!V && !F && G) = false) := Lib.hid (by
        rw [mayL_step, HGD.out]
        unfold rfd
        rw [hV]
        subst hG
        subst hF
        constructor
        · intro h
          have := h.2
          cases V
          · by_cases h2 : m.a.err = 0
            · have := this rfl (fun x => x.2 h2)
              simp [this]
            · simp [h2]
          · simp
        · intro h
          refine ⟨HNO.out, fun h1 h2 h3 => ?_⟩
          have h4 : m.a.err = 0 := Decidable.byContradiction fun x => h2 ⟨h3.1, x⟩
          simp [h1, h4, h3] at h)
      have HBf : Hid ((!V && !F && G) = true → B = false) := Lib.hid (fun x => by
        cases B
        · rfl
        · have h1 := HBB.out.1 rfl
          have h2 : mayL L S K (n + 1) := fun i hi => h1 i (by omega)
          have h3 := HST.out.1 h2
          rw [x] at h3; cases h3)
      clear hG hF hV
      rw [HK.out] at cb
      obtain ⟨t, f, g, ⟨oc, ok, oh, ov⟩, ⟨ae, ao, ak, av, an, ap⟩⟩ := m
      unfold clV at cf cb
      dsimp only at c0 c1 c2 c3 c4 c5 c6 c7 c8 c9 c10 c11 c12 cf cb hbn
      have hb0 := pal (w := wr) (.cells #[.int .i64 t, .int .i64 f, .int .i64 g, .int .i64 oc, .int .i64 ok, .int .i64 oh, .int .i64 ov, .int .i64 ae, .bool ao, .int .i64 ak, .int .i64 av, .int .i64 an, .slice pa ap.length pc] 71)
      have HB0 := Lib.hid (pb2 HBE.out hb0)
      have HN0 := Lib.hid (HBQ.out.keep hb0)
      have HM0 := Lib.hid (HBC.out.keep hb0)
      have HQ0 := Lib.hid (Bq.new wr #[.int .i64 t, .int .i64 f, .int .i64 g, .int .i64 oc, .int .i64 ok, .int .i64 oh, .int .i64 ov, .int .i64 ae, .bool ao, .int .i64 ak, .int .i64 av, .int .i64 an, .slice pa ap.length pc] 71)
      rw [HV.out] at hbn
      clear hb0 HBE HBQ HBC
      cases V <;> cases F <;> cases G
      · go_wp2_with (first | (go_at_call 31; ((with_reducible refine (cf _).mono ?_); rintro e Y ⟨rfl, hbY⟩; have HQ1 := Lib.hid (HQ0.out.keep hbY); have HM1 := Lib.hid (HM0.out.keep hbY); have HN1 := Lib.hid (HN0.out.keep hbY); have HB1 := Lib.hid (pb2 HB0.out hbY); have q0 := HQ1.out.at_ 0 _ rfl; have q1 := HQ1.out.at_ 1 _ rfl; have q2 := HQ1.out.at_ 2 _ rfl; have q3 := HQ1.out.at_ 3 _ rfl; have q4 := HQ1.out.at_ 4 _ rfl; have q5 := HQ1.out.at_ 5 _ rfl; have q6 := HQ1.out.at_ 6 _ rfl; have q7 := HQ1.out.at_ 7 _ rfl; have q8 := HQ1.out.at_ 8 _ rfl; have q9 := HQ1.out.at_ 9 _ rfl; have q10 := HQ1.out.at_ 10 _ rfl; have q11 := HQ1.out.at_ 11 _ rfl; have q12 := HQ1.out.at_ 12 _ rfl; have r0 := HM1.out.at_ 0 _ rfl; have r1 := HM1.out.at_ 1 _ rfl; have r2 := HM1.out.at_ 2 _ rfl; have r3 := HM1.out.at_ 3 _ rfl; have r4 := HM1.out.at_ 4 _ rfl; have r5 := HM1.out.at_ 5 _ rfl; have r6 := HM1.out.at_ 6 _ rfl; have r7 := HM1.out.at_ 7 _ rfl; have r8 := HM1.out.at_ 8 _ rfl; have r9 := HM1.out.at_ 9 _ rfl; have r10 := HM1.out.at_ 10 _ rfl; have r11 := HM1.out.at_ 11 _ rfl; have r12 := HM1.out.at_ 12 _ rfl; clear hbY)) | (go_at_call 49; ((with_reducible refine (cb _).mono ?_); rintro e Z ⟨rfl, hbZ⟩; have HM2 := Lib.hid (HM1.out.keep hbZ); have HN2 := Lib.hid (HN1.out.keep hbZ); have HB2 := Lib.hid (pb2 HB1.out hbZ); clear hbZ)))
        go_roundw
        case rel => exact ⟨n + 1, by omega, by go_num, HST.out.2 (by rfl), HM2.out, HN2.out, HB2.out⟩
        case measure => simp [intOf]; omega
      · go_wp2_with (first | (go_at_call 31; ((with_reducible refine (cf _).mono ?_); rintro e Y ⟨rfl, hbY⟩; have HQ1 := Lib.hid (HQ0.out.keep hbY); have HM1 := Lib.hid (HM0.out.keep hbY); have HN1 := Lib.hid (HN0.out.keep hbY); have HB1 := Lib.hid (pb2 HB0.out hbY); have q0 := HQ1.out.at_ 0 _ rfl; have q1 := HQ1.out.at_ 1 _ rfl; have q2 := HQ1.out.at_ 2 _ rfl; have q3 := HQ1.out.at_ 3 _ rfl; have q4 := HQ1.out.at_ 4 _ rfl; have q5 := HQ1.out.at_ 5 _ rfl; have q6 := HQ1.out.at_ 6 _ rfl; have q7 := HQ1.out.at_ 7 _ rfl; have q8 := HQ1.out.at_ 8 _ rfl; have q9 := HQ1.out.at_ 9 _ rfl; have q10 := HQ1.out.at_ 10 _ rfl; have q11 := HQ1.out.at_ 11 _ rfl; have q12 := HQ1.out.at_ 12 _ rfl; have r0 := HM1.out.at_ 0 _ rfl; have r1 := HM1.out.at_ 1 _ rfl; have r2 := HM1.out.at_ 2 _ rfl; have r3 := HM1.out.at_ 3 _ rfl; have r4 := HM1.out.at_ 4 _ rfl; have r5 := HM1.out.at_ 5 _ rfl; have r6 := HM1.out.at_ 6 _ rfl; have r7 := HM1.out.at_ 7 _ rfl; have r8 := HM1.out.at_ 8 _ rfl; have r9 := HM1.out.at_ 9 _ rfl; have r10 := HM1.out.at_ 10 _ rfl; have r11 := HM1.out.at_ 11 _ rfl; have r12 := HM1.out.at_ 12 _ rfl; clear hbY)) | (go_at_call 49; ((with_reducible refine (cb _).mono ?_); rintro e Z ⟨rfl, hbZ⟩; have HM2 := Lib.hid (HM1.out.keep hbZ); have HN2 := Lib.hid (HN1.out.keep hbZ); have HB2 := Lib.hid (pb2 HB1.out hbZ); clear hbZ)))
        go_ret
        exact ⟨by rw [HBf.out (by rfl)]; rfl, HB2.out⟩
      · go_wp2_with (first | (go_at_call 31; ((with_reducible refine (cf _).mono ?_); rintro e Y ⟨rfl, hbY⟩; have HQ1 := Lib.hid (HQ0.out.keep hbY); have HM1 := Lib.hid (HM0.out.keep hbY); have HN1 := Lib.hid (HN0.out.keep hbY); have HB1 := Lib.hid (pb2 HB0.out hbY); have q0 := HQ1.out.at_ 0 _ rfl; have q1 := HQ1.out.at_ 1 _ rfl; have q2 := HQ1.out.at_ 2 _ rfl; have q3 := HQ1.out.at_ 3 _ rfl; have q4 := HQ1.out.at_ 4 _ rfl; have q5 := HQ1.out.at_ 5 _ rfl; have q6 := HQ1.out.at_ 6 _ rfl; have q7 := HQ1.out.at_ 7 _ rfl; have q8 := HQ1.out.at_ 8 _ rfl; have q9 := HQ1.out.at_ 9 _ rfl; have q10 := HQ1.out.at_ 10 _ rfl; have q11 := HQ1.out.at_ 11 _ rfl; have q12 := HQ1.out.at_ 12 _ rfl; have r0 := HM1.out.at_ 0 _ rfl; have r1 := HM1.out.at_ 1 _ rfl; have r2 := HM1.out.at_ 2 _ rfl; have r3 := HM1.out.at_ 3 _ rfl; have r4 := HM1.out.at_ 4 _ rfl; have r5 := HM1.out.at_ 5 _ rfl; have r6 := HM1.out.at_ 6 _ rfl; have r7 := HM1.out.at_ 7 _ rfl; have r8 := HM1.out.at_ 8 _ rfl; have r9 := HM1.out.at_ 9 _ rfl; have r10 := HM1.out.at_ 10 _ rfl; have r11 := HM1.out.at_ 11 _ rfl; have r12 := HM1.out.at_ 12 _ rfl; clear hbY)) | (go_at_call 49; ((with_reducible refine (cb _).mono ?_); rintro e Z ⟨rfl, hbZ⟩; have HM2 := Lib.hid (HM1.out.keep hbZ); have HN2 := Lib.hid (HN1.out.keep hbZ); have HB2 := Lib.hid (pb2 HB1.out hbZ); clear hbZ)))
        go_roundw
        case rel => exact ⟨n + 1, by omega, by go_num, HST.out.2 (by rfl), HM1.out, HN1.out, HB1.out⟩
        case measure => simp [intOf]; omega
      · go_wp2_with (first | (go_at_call 31; ((with_reducible refine (cf _).mono ?_); rintro e Y ⟨rfl, hbY⟩; have HQ1 := Lib.hid (HQ0.out.keep hbY); have HM1 := Lib.hid (HM0.out.keep hbY); have HN1 := Lib.hid (HN0.out.keep hbY); have HB1 := Lib.hid (pb2 HB0.out hbY); have q0 := HQ1.out.at_ 0 _ rfl; have q1 := HQ1.out.at_ 1 _ rfl; have q2 := HQ1.out.at_ 2 _ rfl; have q3 := HQ1.out.at_ 3 _ rfl; have q4 := HQ1.out.at_ 4 _ rfl; have q5 := HQ1.out.at_ 5 _ rfl; have q6 := HQ1.out.at_ 6 _ rfl; have q7 := HQ1.out.at_ 7 _ rfl; have q8 := HQ1.out.at_ 8 _ rfl; have q9 := HQ1.out.at_ 9 _ rfl; have q10 := HQ1.out.at_ 10 _ rfl; have q11 := HQ1.out.at_ 11 _ rfl; have q12 := HQ1.out.at_ 12 _ rfl; have r0 := HM1.out.at_ 0 _ rfl; have r1 := HM1.out.at_ 1 _ rfl; have r2 := HM1.out.at_ 2 _ rfl; have r3 := HM1.out.at_ 3 _ rfl; have r4 := HM1.out.at_ 4 _ rfl; have r5 := HM1.out.at_ 5 _ rfl; have r6 := HM1.out.at_ 6 _ rfl; have r7 := HM1.out.at_ 7 _ rfl; have r8 := HM1.out.at_ 8 _ rfl; have r9 := HM1.out.at_ 9 _ rfl; have r10 := HM1.out.at_ 10 _ rfl; have r11 := HM1.out.at_ 11 _ rfl; have r12 := HM1.out.at_ 12 _ rfl; clear hbY)) | (go_at_call 49; ((with_reducible refine (cb _).mono ?_); rintro e Z ⟨rfl, hbZ⟩; have HM2 := Lib.hid (HM1.out.keep hbZ); have HN2 := Lib.hid (HN1.out.keep hbZ); have HB2 := Lib.hid (pb2 HB1.out hbZ); clear hbZ)))
        go_roundw
        case rel => exact ⟨n + 1, by omega, by go_num, HST.out.2 (by rfl), HM1.out, HN1.out, HB1.out⟩
        case measure => simp [intOf]; omega
      · go_wp2_with (fail)
        go_roundw
        case rel => exact ⟨n + 1, by omega, by go_num, HST.out.2 (by rfl), HM0.out, HN0.out, HB0.out⟩
        case measure => simp [intOf]; omega
      · go_wp2_with (fail)
        go_roundw
        case rel => exact ⟨n + 1, by omega, by go_num, HST.out.2 (by rfl), HM0.out, HN0.out, HB0.out⟩
        case measure => simp [intOf]; omega
      · go_wp2_with (fail)
        go_roundw
        case rel => exact ⟨n + 1, by omega, by go_num, HST.out.2 (by rfl), HM0.out, HN0.out, HB0.out⟩
        case measure => simp [intOf]; omega
      · go_wp2_with (fail)
        go_roundw
        case rel => exact ⟨n + 1, by omega, by go_num, HST.out.2 (by rfl), HM0.out, HN0.out, HB0.out⟩
        case measure => simp [intOf]; omega
    · obtain rfl : n = L.length := by omega
      have hBt : Hid (B = true) := Lib.hid (HBB.out.2 HNO.out)
      clear hno hbq hbe hbc
      go_wp2_with (fail)
      go_ret
      exact ⟨by rw [hBt.out]; rfl, HBE.out⟩
end Go.Proofs.Ytadfnbmogobopaa

namespace Go.Proofs.Ytadfnbmogobopaa
open Go.RowKit
set_option linter.all false
set_option maxRecDepth 20000

section
variable {P : Program} {ops : Array Oper} {rest : List Oper} {o : Oper} {a : Act} {w : World} {Q : Exit → Act → World → Prop}
theorem wpList_buildT (hg : o.guard = none) (t : TypeId) (parts : Array (Nat × Operand)) (ho : o.op = .build t parts) (cells : Array Value)
    (hf : P.built t (parts.map fun (i, x) => (i, a.eval x)).toList = some cells) (h : wpList P ops Q rest (a.put o.dst (.agg cells)) w) : wpList P ops Q (o :: rest) a w :=
  wpList_build hg t parts ho (by rw [hf]; rfl) (by rw [hf]; exact h)
theorem wpList_allocT (hg : o.guard = none) (t : TypeId) (ho : o.op = .alloc t) (z : Array Value) (hz : ∀ w, (zeroValue t).run P w = .ok (.agg z) w)
    (h : wpList P ops Q rest (a.put o.dst (.pointer (some ⟨w.heap.size, 0, none⟩))) (w.alloc (.cells z t))) : wpList P ops Q (o :: rest) a w := by
  refine wpList_plain hg fun K hK => ?_
  unfold Oper.wp execOp
  simp only [ho, Instr.alloc, Sem.run_bind, Sem.run_pure, Result.andThen_ok, hz, newVar, Value.cells]
  exact hK _ _ h
theorem wpList_storeN (hgd : o.guard = none) (t : TypeId) (x y : Operand) (ho : o.op = .store t x y) (w0 : World) (c c' : Array Value)
    (hx : a.eval x = .pointer (some ⟨w0.heap.size, 0, none⟩)) (hy : a.eval y = .agg c') (hw : w = w0.alloc (.cells c t))
    (hi : (P.info? t).map (·.size) = some c'.size) (hs : c.size = c'.size) (h1 : c'.all (·.oneCell') = true)
    (h : wpList P ops Q rest (a.put o.dst undef) (w0.alloc (.cells c' t))) : wpList P ops Q (o :: rest) a w := by
  subst hw
  refine wpList_plain hgd fun K hK => ?_
  unfold Oper.wp execOp
  simp only [ho, hx, hy, Sem.run_bind, run_storeAt_new w0 t c c' hi hs h1, Result.andThen_ok, Sem.run_pure]
  exact hK _ _ h
end
theorem results_cell_one {fn : Func} {p : Tmp} {ty : TypeId} (h : fn.results = #[.cell p ty]) (tmps : Array Value) (P : Program) (w : World) (a : Addr) (v : Value)
    (hp : tmps.getD p undef = .pointer (some a)) (hl : (loadVar ty a).run P w = .ok v w) : (results fn tmps).run P w = .ok v w := by
  have hp' : tmps[p]?.getD undef = .pointer (some a) := by simpa using hp
  simp [results, h, hp', asAddr, hl]
/-- What a map has of the key of each of the first n calls, as the program holds it behind the calls that are named. -/
def hvN (L : List ClD) (m : List Pr) (n i : Nat) : Bool × Int := if i < n then hv m (L.getD i zCl).o.k else (false, 0)
def spf (L : List ClD) (S : Nat → Bool) (m : List Pr) (n j : Nat) : Value :=
  if j < 16 then .bool (S j) else if j % 2 = 0 then .bool (hvN L m n ((j - 16) / 2)).1 else .int .i64 (hvN L m n ((j - 16) / 2)).2
def spotA (L : List ClD) (S : Nat → Bool) (m : List Pr) (n : Nat) : Array Value := (vtv (spf L S m n) 48).toArray
theorem infoSpot : (Try.prog.info? 78).map (fun i => (i.zero, i.size)) = some (some (.agg (spotA [] (fun _ => false) [] 0)), 48) := by kernel_rfl
theorem zeroSpot (w : World) : (zeroValue 78).run Try.prog w = .ok (.agg (spotA [] (fun _ => false) [] 0)) w := (zero_of_info infoSpot).1 w
theorem sizeSpot : (Try.prog.info? 78).map (·.size) = some 48 := (zero_of_info infoSpot).2
theorem sizePlaces : (Try.prog.info? 60).map (·.size) = some 16 := by kernel_rfl
theorem spotA_size (L : List ClD) (S : Nat → Bool) (m : List Pr) (n : Nat) : (spotA L S m n).size = 48 := by simp [spotA, vtv_len]
theorem bitsA_size (S : Nat → Bool) : (bitsA S).size = 16 := by simp [bitsA, vtv_len]
theorem spf_one (L : List ClD) (S : Nat → Bool) (m : List Pr) (n j : Nat) : (spf L S m n j).oneCell' = true := by unfold spf; split <;> (try split) <;> rfl
theorem vtv_one {f : Nat → Value} (h : ∀ j, (f j).oneCell' = true) (n : Nat) : ∀ v ∈ vtv f n, v.oneCell' = true := fun v hv => by
  unfold vtv at hv
  obtain ⟨j, _, rfl⟩ := List.mem_map.1 hv
  exact h j
theorem spotA_one (L : List ClD) (S : Nat → Bool) (m : List Pr) (n : Nat) : (spotA L S m n).all (·.oneCell') = true := all_oneCell_toArray (vtv_one (spf_one L S m n) 48)
theorem bitsA_one (S : Nat → Bool) : (bitsA S).all (·.oneCell') = true := all_oneCell_toArray (vtv_one (fun _ => rfl) 16)
theorem built_spot (L : List ClD) (S : Nat → Bool) (m : List Pr) : Try.prog.built 78 [(0, .agg (bitsA S))] = some (spotA L S m 0) := by kernel_rfl
theorem Bq.range {W : World} {b : Nat} {vs : List Value} (h : Bq W b vs) : W.rangeAt b 0 vs := fun j v hj => by rw [Nat.zero_add]; exact h.at_ j v hj
theorem Bq.there {W : World} {b : Nat} {vs : List Value} (h : Bq W b vs) {n : Nat} (hn : n ≤ vs.length) : W.there b 0 n := fun j hj => by
  rw [Nat.zero_add]
  exact ⟨by rw [h.at_ j _ (List.getElem?_eq_getElem (by omega))]; rfl, h.fr j⟩
theorem spot_new (W : World) (L : List ClD) (S : Nat → Bool) (m : List Pr) (n : Nat) : Bq (W.alloc (.cells (spotA L S m n) 78)) W.heap.size (vtv (spf L S m n) 48) := Bq.new W (spotA L S m n) _
theorem setCells_only (b : Nat) : ∀ (l : List Value) (o : Nat) (W : World), Only (fun j => j = b) W (W.setCells b o l)
  | [], _, W => Only.refl _ W
  | v :: r, o, W => by
    rw [World.setCells]
    exact ((Only.refl (fun j => j = b) W).setCell (p := ⟨b, o, none⟩) (.inl rfl) v).trans (setCells_only b r (o + 1) _) (fun i hi _ => hi)
/-- Where a key stands, and what a map has of it. -/
theorem ix_hv {m : List Pr} (h : Srt m) (k : Int) : (∃ (n : Nat) (v : Int), m[n]? = some (k, v) ∧ ixL m k = (n : Int) ∧ hv m k = (true, v)) ∨ (ixL m k = -1 ∧ hv m k = (false, 0)) := by
  cases e : (hadL m k).1
  · refine .inr ⟨ixL_none (hadL_none e), ?_⟩
    unfold hv
    rw [hadL_not (hadL_none e)]
  · obtain ⟨v, hm, e2⟩ := hadL_some e
    obtain ⟨n, hn⟩ := List.getElem?_of_mem hm
    refine .inl ⟨n, v, hn, ixL_at hn (fun x hx hk => ?_), by unfold hv; rw [e2]⟩
    obtain ⟨i, hi⟩ := List.getElem?_of_mem hx
    have hin : i < n := by
      have := (List.getElem?_eq_some_iff.1 hi).1
      rw [List.length_take] at this; omega
    rw [List.getElem?_take_of_lt hin] at hi
    have := h.at i n x (k, v) hin hi hn
    have e3 : (k, v).1 = k := rfl
    omega
theorem hvN_next {L : List ClD} {m : List Pr} {n i : Nat} : hvN L m (n + 1) i = if i = n then hv m (L.getD n zCl).o.k else hvN L m n i := by
  unfold hvN
  by_cases e : i = n
  · subst e; rw [if_pos (by omega), if_pos rfl]
  · rw [if_neg e]
    by_cases h : i < n
    · rw [if_pos h, if_pos (by omega)]
    · rw [if_neg h, if_neg (by omega)]
theorem spf_skip {L : List ClD} {S : Nat → Bool} {m : List Pr} {n : Nat} (h : hv m (L.getD n zCl).o.k = (false, 0)) : spf L S m (n + 1) = spf L S m n := funext fun j => by
  unfold spf
  have : ∀ i, hvN L m (n + 1) i = hvN L m n i := fun i => by
    rw [hvN_next]
    by_cases e : i = n
    · subst e; rw [if_pos rfl, h]; unfold hvN; rw [if_neg (by omega)]
    · rw [if_neg e]
  rw [this]
theorem spf_set {L : List ClD} {S : Nat → Bool} {m : List Pr} {n : Nat} {v : Int} (h : hv m (L.getD n zCl).o.k = (true, v)) (j : Nat) :
    (if j = 16 + n * 2 + 1 then Value.int .i64 v else if j = 16 + n * 2 then .bool true else spf L S m n j) = spf L S m (n + 1) j := by
  unfold spf
  by_cases h1 : j = 16 + n * 2 + 1
  · subst h1
    rw [if_pos rfl, if_neg (by omega), if_neg (by omega), show (16 + n * 2 + 1 - 16) / 2 = n by omega, hvN_next, if_pos rfl, h]
  · rw [if_neg h1]
    by_cases h2 : j = 16 + n * 2
    · subst h2
      rw [if_pos rfl, if_neg (by omega), if_pos (by omega), show (16 + n * 2 - 16) / 2 = n by omega, hvN_next, if_pos rfl, h]
    · rw [if_neg h2]
      by_cases h3 : j < 16
      · rw [if_pos h3, if_pos h3]
      · have e : ¬ (j - 16) / 2 = n := by omega
        rw [if_neg h3, if_neg h3, hvN_next, if_neg e]
set_option maxRecDepth 100000 in
set_option maxHeartbeats 12800000 in
theorem spot_any (sb : Nat) (a : Option Addr) (cap : Nat) (L : List ClD) (S : Nat → Bool) (mp : Nat) (Sm : Nat → Prop) (m : List Pr) (w : World) (hs : w.cell? ⟨sb, 0, none⟩ = some (.slice a L.length cap)) (hL : Cs w a cap L) (hn : L.length ≤ 16) (hm : MapAt w Sm mp m) (hml : m.length ≤ 1000) (hsr : Srt m) :
    Calls Try.prog 30 #[.pointer (some ⟨sb, 0, none⟩), .pointer (some ⟨mp, 0, none⟩), .agg (bitsA S)] w fun e w' => e = .returned (.agg (spotA L S m L.length)) ∧ Below w.heap.size w w' := by
  have HC := Lib.hid hL
  have HM := Lib.hid hm
  have hc1 := hL.1
  have hc2 := hL.2.1
  unfold maxLen at hc2
  have hsl : sb < w.heap.size := World.block_lt_of_cell? w _ hs
  have HW := Lib.hid (show Below w.heap.size w (((w.alloc (.cells (bitsA S) 60)).alloc (.cells (spotA [] (fun _ => false) [] 0) 78)).alloc (.cells (spotA L S m 0) 78)) from pb1 (pb1 (pal (w := w) _) _) _)
  have HR0 := Lib.hid ((spot_new (w.alloc (.cells (bitsA S) 60)) [] (fun _ => false) [] 0).past (.cells (spotA L S m 0) 78))
  have HN0 := Lib.hid (spot_new ((w.alloc (.cells (bitsA S) 60)).alloc (.cells (spotA [] (fun _ => false) [] 0) 78)) L S m 0)
  have HP0 := Lib.hid ((bits_new w S).past (.cells (spotA [] (fun _ => false) [] 0) 78))
  rw [show (w.alloc (.cells (bitsA S) 60)).heap.size = w.heap.size + 1 by simp] at HR0
  rw [show ((w.alloc (.cells (bitsA S) 60)).alloc (.cells (spotA [] (fun _ => false) [] 0) 78)).heap.size = w.heap.size + 2 by simp] at HN0
  have c := fun W hw => mpairs_any mp Sm m W hw (by omega)
  clear hL hm
  go_enter Try.func30, Try.ntmps30
  go_wp2_with (first
    | (refine wpList_allocT rfl 78 rfl _ zeroSpot ?_)
    | (refine wpList_load_mid rfl 60 _ rfl w.heap.size 0 rfl _ _ HP0.out.range Try.underlying60 rfl (by rw [vtv_len]; exact sizePlaces) ?_)
    | (refine wpList_buildT rfl 78 _ rfl (spotA L S m 0) ?_ ?_; (go_simp; exact built_spot L S m))
    | (refine wpList_storeN rfl 78 _ _ rfl _ _ (spotA L S m 0) rfl rfl rfl (by rw [spotA_size]; exact sizeSpot) (by rw [spotA_size, spotA_size]) (spotA_one _ _ _ _) ?_)
    | (go_at_call 46; ((with_reducible refine (c _ (HM.out.below HW.out)).mono ?_); clear c; rintro e w1 ⟨ao, cp, rfl, hR, hb1⟩; have HR := Lib.hid hR; have HN1 := Lib.hid (HN0.out.keep hb1); have HR1 := Lib.hid (HR0.out.keep hb1); have HB1 := Lib.hid (pb2 HW.out hb1); have hs1 := pkc HB1.out hs; clear hR hb1 HN0 HR0 HP0 HW)))
  have hcp : m.length ≤ cp ∧ cp ≤ maxLen := by
    obtain ⟨_, _, e, h1, h2⟩ := row_form HR.out.row
    cases e
    exact ⟨h1, h2⟩
  have hcp1 := hcp.1
  have hcp2 := hcp.2
  unfold maxLen at hcp2
  have hlw : w.heap.size + 3 ≤ w1.heap.size := by have := HN1.out.lt; omega
  have HR2 := Lib.hid (HR.out.sub (S' := fun j => j < w.heap.size + 3) (fun k _ hk => by
    have : (((w.alloc (.cells (bitsA S) 60)).alloc (.cells (spotA [] (fun _ => false) [] 0) 78)).alloc (.cells (spotA L S m 0) 78)).heap.size = w.heap.size + 3 := by simp
    exact Nat.lt_of_lt_of_eq hk this.symm))
  clear HR hcp hlw
  go_loopw [21] (fun i wr => ∃ n : Nat, n ≤ L.length ∧ i = .int .i64 n ∧ Bq wr (w.heap.size + 1 + 1) (vtv (spf L S m n) 48) ∧ Bq wr (w.heap.size + 1) (vtv (spf [] (fun _ => false) [] 0) 48) ∧ PRow wr (fun j => j < w.heap.size + 3) (.slice ao m.length cp) m ∧ Below w.heap.size w wr) (fun i _ => L.length - (intOf i).toNat)
  case atStart => exact ⟨0, Nat.zero_le _, rfl, HN1.out, HR1.out, HR2.out, HB1.out⟩
  case round =>
    clear HN1 HR1 HR2 HB1 hs hs1
    obtain ⟨n, hnl, rfl, hsp, hrs, hrw, hbe⟩ := hrel
    have HSP := Lib.hid hsp
    have HRS := Lib.hid hrs
    have HRW := Lib.hid hrw
    have HBE := Lib.hid hbe
    by_cases hlt : n < L.length
    · obtain ⟨d, hm⟩ : ∃ m, L[n]? = some m := ⟨_, List.getElem?_eq_getElem hlt⟩
      obtain ⟨b, oo, pa, pc, rfl, hca⟩ := (HC.out.keep hbe).2.2 n d hm
      obtain ⟨c0, c1, c2, c3, c4, c5, c6, c7, c8, c9, c10, c11, c12⟩ := hca.ex
      have hn0 : (0 : Int) ≤ (n : Int) := Int.natCast_nonneg n
      have hnI : (n : Int) < (L.length : Int) := Int.ofNat_lt.2 hlt
      have hn16 : (n : Int) < 16 := by omega
      have hn16n : n < 16 := by omega
      have hgd : L.getD n zCl = d := by rw [List.getD_eq_getElem?_getD, hm]; rfl
      have HGD := Lib.hid hgd
      have HIX := Lib.hid (ix_hv hsr d.o.k)
      have cf := fun W hw => lfind_any ao cp m d.o.k W hw
      clear hm hca hgd hsp hrs hrw hbe
      obtain ⟨t, f, g, ⟨oc, ok, oh, ov⟩, ⟨ae, ao, ak, av, an, ap⟩⟩ := d
      dsimp only at c0 c1 c2 c3 c4 c5 c6 c7 c8 c9 c10 c11 c12 cf
      have hb0 := pal (w := wr) (.cells #[.int .i64 t, .int .i64 f, .int .i64 g, .int .i64 oc, .int .i64 ok, .int .i64 oh, .int .i64 ov, .int .i64 ae, .bool ao, .int .i64 ak, .int .i64 av, .int .i64 an, .slice pa ap.length pc] 71)
      have HB0 := Lib.hid (pb2 HBE.out hb0)
      have HS0 := Lib.hid (HSP.out.keep hb0)
      have HT0 := Lib.hid (HRS.out.keep hb0)
      have HW0 := Lib.hid (HRW.out.below hb0)
      clear hb0 HBE HSP HRS HRW
      rcases HIX.out with ⟨p, v, hp, hix, hhv⟩ | ⟨hix, hhv⟩
      · rw [hix] at cf
        have hp0 : (0 : Int) ≤ (p : Int) := Int.natCast_nonneg p
        have hpl : p < m.length := (List.getElem?_eq_some_iff.1 hp).1
        have hpI : (p : Int) < (m.length : Int) := Int.ofNat_lt.2 hpl
        have HHV := Lib.hid hhv
        have HP := Lib.hid hp
        clear hix hhv hp
        go_wp2_with (first
          | (go_at_call 48; ((with_reducible refine (cf _ (HW0.out.prs rfl)).mono ?_); rintro e Y ⟨rfl, hbY⟩; have HB1 := Lib.hid (pb2 HB0.out hbY); have HS1 := Lib.hid (HS0.out.keep hbY); have HT1 := Lib.hid (HT0.out.keep hbY); have HW1 := Lib.hid (HW0.out.below hbY); obtain ⟨pb, po, rfl, p0, p1⟩ := (HW1.out.prs rfl).2.2.1 p _ HP.out; have s0 := HS1.out.at_ (16 + n * 2) _ (vtv_get (by omega)); have s1 := HS1.out.at_ (16 + n * 2 + 1) _ (vtv_get (by omega)); have f0 := HS1.out.fr (16 + n * 2); have f1 := HS1.out.fr (16 + n * 2 + 1); clear hbY)))
        go_roundw
        case rel =>
          have h1 := (HS1.out.set (16 + n * 2) (.bool true) (by rw [vtv_len]; omega)).set (16 + n * 2 + 1) (.int .i64 v) (by rw [List.length_set, vtv_len]; omega)
          rw [vtv_set, vtv_set] at h1
          have ho : Only (fun k => k = w.heap.size + 1 + 1) Y ((Y.setCell ⟨w.heap.size + 1 + 1, 16 + n * 2, none⟩ (.bool true)).setCell ⟨w.heap.size + 1 + 1, 16 + n * 2 + 1, none⟩ (.int .i64 v)) := ((Only.refl (fun k => k = w.heap.size + 1 + 1) Y).setCell (p := ⟨w.heap.size + 1 + 1, 16 + n * 2, none⟩) (.inl rfl) _).setCell (p := ⟨w.heap.size + 1 + 1, 16 + n * 2 + 1, none⟩) (.inl rfl) _
          refine ⟨n + 1, by omega, by go_num, ?_, HT1.out.only ho (by omega), HW1.out.onlyC ho (fun k hk => by have : k = w.heap.size + 1 + 1 := hk; omega), ?_⟩
          · refine (congrArg (Bq _ _) (vtv_congr fun j _ => ?_)).mp h1
            exact spf_set (by rw [HGD.out]; exact HHV.out) j
          · exact HB1.out.trans (ho.below (fun k hk => by have : k = w.heap.size + 1 + 1 := hk; omega) HB1.out.size)
        case measure => simp [intOf]; omega
      · rw [hix] at cf
        have HHV := Lib.hid hhv
        clear hix hhv
        go_wp2_with (first
          | (go_at_call 48; ((with_reducible refine (cf _ (HW0.out.prs rfl)).mono ?_); rintro e Y ⟨rfl, hbY⟩; have HB1 := Lib.hid (pb2 HB0.out hbY); have HS1 := Lib.hid (HS0.out.keep hbY); have HT1 := Lib.hid (HT0.out.keep hbY); have HW1 := Lib.hid (HW0.out.below hbY); clear hbY)))
        go_roundw
        case rel =>
          refine ⟨n + 1, by omega, by go_num, ?_, HT1.out, HW1.out, HB1.out⟩
          rw [spf_skip (by rw [HGD.out]; exact HHV.out)]
          exact HS1.out
        case measure => simp [intOf]; omega
    · obtain rfl : n = L.length := by omega
      clear hsp hrs hrw hbe
      go_wp2_with (first
        | (refine wpList_load_mid rfl 78 _ rfl (w.heap.size + 1 + 1) 0 rfl _ _ HSP.out.range Try.underlying78 rfl (by rw [vtv_len]; exact sizeSpot) ?_)
        | (refine wpList_store_mid rfl 78 _ _ rfl (w.heap.size + 1) 0 (spotA L S m L.length) rfl rfl (HRS.out.there (by rw [spotA_size, vtv_len]; exact Nat.le_refl _)) (by rw [spotA_size]; exact sizeSpot) (spotA_one _ _ _ _) ?_))
      have hrg := World.rangeAt_setCells_same wr (w.heap.size + 1) 0 (spotA L S m L.length).toList (HRS.out.there (by rw [Array.length_toList, spotA_size, vtv_len]; exact Nat.le_refl _))
      have hld := run_loadVar_mid (P := Try.prog) (wr.setCells (w.heap.size + 1) 0 (spotA L S m L.length).toList) (w.heap.size + 1) 0 78 (spotA L S m L.length).toList _ hrg Try.underlying78 rfl (by rw [Array.length_toList, spotA_size]; exact sizeSpot)
      rw [Array.toArray_toList] at hld
      (try simp only [Exit.inBlock, Exit.then])
      refine bodyPost_ret (v := .agg (spotA L S m L.length)) ?_ rfl ⟨rfl, HBE.out.trans ((setCells_only _ _ _ _).below (fun k hk => by have : k = w.heap.size + 1 := hk; omega) HBE.out.size)⟩
      exact results_cell_one rfl _ _ _ _ _ rfl hld
end Go.Proofs.Ytadfnbmogobopaa
