/- tree.Set exactly. No condition: lemmas. tree.Set of a leaf. No condition: lemmas. osierref1.With of up to 3000 pairs; which leaf may hold a key. No condition: lemmas. -/
import Derived.Test.YteebceecohhegaaTrR
namespace Go.Proofs.Yteebceecohhegaa
open Go.RowKit
set_option linter.all false

attribute [local go_sem] mkN_run
/-- The leaf that Set sets. -/
def lfn (l : List Pr) (st : Int) : Nd := ⟨false, 0, 0, 0, l, st⟩
/-- What Set tells. -/
def SetIs (w : World) (r : Int) (Q : List Nd) (x : Bool) (e : Ending) (w' : World) : Prop := ∃ ao cp, e = .returned (.tuple #[.agg #[.int .i64 r, .slice ao Q.length cp], .bool x]) ∧ Ns w' ao cp Q ∧ Below w.heap.size w w'
/-- Set's answer. -/
def SetO (N : List Nd) (t : Int) (y : Int) (l : List Pr) (st : Int) (r : Int) (Q : List Nd) (x : Bool) : Prop :=
  (x = true ∧ r = t ∧ (∃ s, Tr N s t) ∧ ∃ (j : Nat) (n : Nd), y = j ∧ N[j]? = some n ∧ n.r = false ∧ Q = N.set j (lfn l st) ∧ ∃ s, Tr Q s t) ∨
  (x = false ∧ r = 0 ∧ Q = [] ∧ ¬ ((∃ s, Tr N s t) ∧ ∃ (j : Nat) (n : Nd), y = j ∧ N[j]? = some n ∧ n.r = false ∧ ∃ s, Tr (N.set j (lfn l st)) s t))
theorem setO_ex (N : List Nd) (t y : Int) (l : List Pr) (st : Int) : ∃ r Q x, SetO N t y l st r Q x := by
  rcases Classical.em ((∃ s, Tr N s t) ∧ ∃ (j : Nat) (n : Nd), y = j ∧ N[j]? = some n ∧ n.r = false ∧ ∃ s, Tr (N.set j (lfn l st)) s t) with ⟨h, j, n, h1, h2, h3, h4⟩ | h
  · exact ⟨t, _, true, .inl ⟨rfl, rfl, h, j, n, h1, h2, h3, rfl, h4⟩⟩
  · exact ⟨0, [], false, .inr ⟨rfl, rfl, rfl, h⟩⟩

set_option maxRecDepth 100000 in
set_option maxHeartbeats 6400000 in
theorem tset_no (t : Int) (a : Option Addr) (cap : Nat) (N : List Nd) (y : Int) (pa : Option Addr) (pc : Nat) (l : List Pr) (st : Int) (w : World) (hN : Ns w a cap N) (hsm : Small N)
    (h : (∀ s, ¬ Tr N s t) ∨ (∃ s, Tr N s t) ∧ ∀ (j : Nat) (n : Nd), y = j → N[j]? = some n → n.r = true) :
    Calls Try.prog 24 #[trv t a cap N, .int .i64 y, .slice pa l.length pc, .int .i64 st] w (SetIs w 0 [] false) := by
  have hl1 := hsm.1
  have hc1 := hN.1
  have hc2 := hN.2.1
  unfold maxLen at hc2
  have b2 : Below w.heap.size w ((w.alloc (.cells #[.int .i64 t, .slice a N.length cap] 24)).alloc (.cells #[.int .i64 0, .slice none 0 0] 24)) := bel1 (al1 _) _
  have cm := fun B hB => tmay_any t a cap N _ (hN.keep b2) hsm B hB
  have B1 := Lib.hid (Bk.past (Bk.new w #[.int .i64 t, .slice a N.length cap] 24) (.cells #[.int .i64 0, .slice none 0 0] 24))
  have B2 := Lib.hid (show Bk ((w.alloc (.cells #[.int .i64 t, .slice a N.length cap] 24)).alloc (.cells #[.int .i64 0, .slice none 0 0] 24)) (w.heap.size + 1) [.int .i64 0, .slice none 0 0] from by
    have h := Bk.new (w.alloc (.cells #[.int .i64 t, .slice a N.length cap] 24)) #[.int .i64 0, .slice none 0 0] 24
    simp only [World.size_alloc] at h; exact h)
  have HB := Lib.hid b2
  have HN := Lib.hid hN
  unfold trv at cm ⊢
  clear b2 hN
  rcases h with h | ⟨h, h2⟩
  · have cm' := cm false ⟨fun h => (by cases h), fun ⟨s, hs⟩ => absurd hs (h s)⟩
    clear cm h hc1 hc2 hl1
    go_enter Try.func24, Try.ntmps24
    go_wp2_with (go_at_call 19; ((with_reducible refine cm'.mono ?_); clear cm'; rintro e w3 ⟨rfl, hb3⟩; have R2 := Lib.hid (B2.out.keep hb3); have HR := Lib.hid hb3; clear hb3; have g0 := R2.out.fr 0; have g1 := R2.out.fr 1; have m0 := R2.out.at_ 0 _ rfl; have m1 := R2.out.at_ 1 _ rfl))
    refine bodyPost_ret (v := .tuple #[.agg #[.int .i64 0, .slice none 0 0], .bool false]) (by simp [results, Try.results24, go_sem, m0, m1]) rfl ⟨none, 0, rfl, Ns.none _, ?_⟩
    repeat' (first | refine Below.setCell ?_ (by dsimp only; omega) _ | exact bel2 HB.out HR.out)
  · have cm' := cm true ⟨fun _ => h, fun _ => rfl⟩
    clear cm h
    by_cases h0 : y < 0
    · have h0' : decide (y < 0) = true := decide_eq_true h0
      clear h2 h0 hc1 hc2 hl1
      go_enter Try.func24, Try.ntmps24
      go_wp2_with (go_at_call 19; ((with_reducible refine cm'.mono ?_); clear cm'; rintro e w3 ⟨rfl, hb3⟩; have R2 := Lib.hid (B2.out.keep hb3); have HR := Lib.hid hb3; clear hb3; have g0 := R2.out.fr 0; have g1 := R2.out.fr 1; have m0 := R2.out.at_ 0 _ rfl; have m1 := R2.out.at_ 1 _ rfl))
      refine bodyPost_ret (v := .tuple #[.agg #[.int .i64 0, .slice none 0 0], .bool false]) (by simp [results, Try.results24, go_sem, m0, m1]) rfl ⟨none, 0, rfl, Ns.none _, ?_⟩
      repeat' (first | refine Below.setCell ?_ (by dsimp only; omega) _ | exact bel2 HB.out HR.out)
    · by_cases h1 : (N.length : Int) ≤ y
      · have h0' : decide (y < 0) = false := decide_eq_false h0
        have h1' : decide ((N.length : Int) ≤ y) = true := decide_eq_true h1
        clear h2 h0 h1 hc1 hc2 hl1
        go_enter Try.func24, Try.ntmps24
        go_wp2_with (go_at_call 19; ((with_reducible refine cm'.mono ?_); clear cm'; rintro e w3 ⟨rfl, hb3⟩; have R2 := Lib.hid (B2.out.keep hb3); have HR := Lib.hid hb3; have x1 := (B1.out.keep hb3).at_ 1 _ rfl; clear hb3; have g0 := R2.out.fr 0; have g1 := R2.out.fr 1; have m0 := R2.out.at_ 0 _ rfl; have m1 := R2.out.at_ 1 _ rfl))
        refine bodyPost_ret (v := .tuple #[.agg #[.int .i64 0, .slice none 0 0], .bool false]) (by simp [results, Try.results24, go_sem, m0, m1]) rfl ⟨none, 0, rfl, Ns.none _, ?_⟩
        repeat' (first | refine Below.setCell ?_ (by dsimp only; omega) _ | exact bel2 HB.out HR.out)
      · obtain ⟨j, rfl⟩ : ∃ j : Nat, y = j := ⟨y.toNat, by omega⟩
        have hj : j < N.length := by omega
        obtain ⟨n, hn⟩ : ∃ n, N[j]? = some n := ⟨_, List.getElem?_eq_getElem hj⟩
        have hr := h2 j n rfl hn
        obtain ⟨b, o, qa, qc, rfl, hna⟩ := HN.out.2.2 j n hn
        have h0' : decide ((j : Int) < 0) = false := decide_eq_false h0
        have h1' : decide ((N.length : Int) ≤ (j : Int)) = false := decide_eq_false h1
        have hj0 : (0 : Int) ≤ (j : Int) := by omega
        have hj1 : (j : Int) < (N.length : Int) := by omega
        have HA := Lib.hid hna
        have e0 := hna.c0
        rw [hr] at e0
        have HE := Lib.hid e0
        clear h2 h0 h1 hl1 hna hr e0 hn
        go_enter Try.func24, Try.ntmps24
        go_wp2_with (go_at_call 19; ((with_reducible refine cm'.mono ?_); clear cm'; rintro e w3 ⟨rfl, hb3⟩; have R2 := Lib.hid (B2.out.keep hb3); have HR := Lib.hid hb3; have x1 := (B1.out.keep hb3).at_ 1 _ rfl; have x2 := kc (bel2 HB.out hb3) HE.out; clear hb3; have g0 := R2.out.fr 0; have g1 := R2.out.fr 1; have m0 := R2.out.at_ 0 _ rfl; have m1 := R2.out.at_ 1 _ rfl))
        refine bodyPost_ret (v := .tuple #[.agg #[.int .i64 0, .slice none 0 0], .bool false]) (by simp [results, Try.results24, go_sem, m0, m1]) rfl ⟨none, 0, rfl, Ns.none _, ?_⟩
        repeat' (first | refine Below.setCell ?_ (by dsimp only; omega) _ | exact bel2 HB.out HR.out)
#print axioms tset_no
end Go.Proofs.Yteebceecohhegaa

namespace Go.Proofs.Yteebceecohhegaa
open Go.RowKit
set_option linter.all false

attribute [local go_sem] mkN_run
/-- The tree that Set makes: its box, its row. -/
structure Tw (z : Nat) (W : World) (q9 gq : Nat) (t : Int) (N : List Nd) (wr : World) (M : List RN) : Prop where
  b : Below W.heap.size W wr
  u : Bk wr q9 [.int .i64 t, .slice (some ⟨gq, 0, none⟩) N.length N.length]
  r : NRow wr (fun k => k = z) (.slice (some ⟨gq, 0, none⟩) N.length N.length) M
  l : M.length = N.length
  ne : q9 ≠ gq ∧ W.heap.size ≤ gq ∧ W.heap.size ≤ q9 ∧ z < W.heap.size
theorem Tw.drew {z : Nat} {W : World} {q9 gq : Nat} {t : Int} {N : List Nd} {wr : World} {M : List RN} (h : Tw z W q9 gq t N wr M) : Tw z W q9 gq t N wr.drew M := ⟨h.b.drew, h.u.drew, h.r.drew, h.l, h.ne⟩
theorem Tw.keep {z : Nat} {W : World} {q9 gq : Nat} {t : Int} {N : List Nd} {wr X : World} {M : List RN} (h : Tw z W q9 gq t N wr M) (hb : Below wr.heap.size wr X) : Tw z W q9 gq t N X M := ⟨bel2 h.b hb, h.u.keep hb, h.r.keep hb, h.l, h.ne⟩
theorem Tw.put {z : Nat} {W : World} {q9 gq : Nat} {t : Int} {N : List Nd} {wr : World} {M : List RN} (h : Tw z W q9 gq t N wr M) {w7 X : World} {y : Nat} {m : RN} (hm : M[y]? = some m) (m' : RN)
    (hb7 : Below wr.heap.size wr w7) (hR : PRow w7 (fun j => j < wr.heap.size) (.slice m'.a m'.n.p.length m'.c) m'.n.p) (hb : Below w7.heap.size w7 X) :
    Tw z W q9 gq t N ((((((X.setCell ⟨gq, y * 6, none⟩ (.bool m'.n.r)).setCell ⟨gq, y * 6 + 1, none⟩ (.int .i64 m'.n.k)).setCell ⟨gq, y * 6 + 2, none⟩ (.int .i64 m'.n.a)).setCell ⟨gq, y * 6 + 3, none⟩ (.int .i64 m'.n.b)).setCell ⟨gq, y * 6 + 4, none⟩ (.slice m'.a m'.n.p.length m'.c)).setCell ⟨gq, y * 6 + 5, none⟩ (.int .i64 m'.n.s)) (M.set y m') := by
  obtain ⟨n1, n2, n3, n4⟩ := h.ne
  have bX := h.b.trans ((bel2 hb7 hb).mono h.b.size)
  have hO : Only (fun i => i = gq) X ((((((X.setCell ⟨gq, y * 6, none⟩ (.bool m'.n.r)).setCell ⟨gq, y * 6 + 1, none⟩ (.int .i64 m'.n.k)).setCell ⟨gq, y * 6 + 2, none⟩ (.int .i64 m'.n.a)).setCell ⟨gq, y * 6 + 3, none⟩ (.int .i64 m'.n.b)).setCell ⟨gq, y * 6 + 4, none⟩ (.slice m'.a m'.n.p.length m'.c)).setCell ⟨gq, y * 6 + 5, none⟩ (.int .i64 m'.n.s)) := only_six (Only.refl _ X) (.inl rfl)
  refine ⟨bX.trans (hO.below (B := W.heap.size) (fun i hi => by have : i = gq := hi; omega) bX.size), (h.u.keep (bel2 hb7 hb)).only hO n1, ?_, by rw [List.length_set]; exact h.l, h.ne⟩
  exact (h.r.keep (bel2 hb7 hb)).six hm m' ((hR.prs rfl).below hb) (fun _ b o sp e => by
    have h1 := hR.av b (by have e2 : m'.a = some ⟨b, o, sp⟩ := e; rw [e2]; rfl)
    have h4 : ¬ b < wr.heap.size := h1
    have h5 := h.b.size
    have h6 : gq < wr.heap.size := by
      have h7 : 0 < M.length ∨ M.length = 0 := by omega
      have := (List.getElem?_eq_some_iff.1 hm).1
      obtain ⟨g', eg, _, hna, _⟩ := h.r.at hm
      cases eg
      have := World.block_lt_of_cell? wr _ hna.c0
      exact this
    exact ⟨fun e' => by have : b = z := e'; omega, fun e' => by omega⟩)

set_option maxRecDepth 100000 in
set_option maxHeartbeats 12800000 in
theorem tset_yes (t : Int) (a : Option Addr) (cap : Nat) (N : List Nd) (y : Nat) (n0 : Nd) (pa : Option Addr) (pc : Nat) (l : List Pr) (st : Int) (w : World) (hN : Ns w a cap N) (hsm : Small N) (hl : Prs w pa pc l) (hll : l.length ≤ 2100)
    (h : ∃ s, Tr N s t) (hn0 : N[y]? = some n0) (hr0 : n0.r = false) (B : Bool) (hB : B = true ↔ ∃ s, Tr (N.set y (lfn l st)) s t) :
    Calls Try.prog 24 #[trv t a cap N, .int .i64 y, .slice pa l.length pc, .int .i64 st] w (SetIs w (bif B then t else 0) (bif B then N.set y (lfn l st) else []) B) := by
  have hl1 := hsm.1
  have hc1 := hN.1
  have hc2 := hN.2.1
  unfold maxLen at hc2
  have b2 : Below w.heap.size w ((w.alloc (.cells #[.int .i64 t, .slice a N.length cap] 24)).alloc (.cells #[.int .i64 0, .slice none 0 0] 24)) := bel1 (al1 _) _
  have cm := tmay_any t a cap N _ (hN.keep b2) hsm true ⟨fun _ => h, fun _ => rfl⟩
  have B1 := Lib.hid (Bk.past (Bk.new w #[.int .i64 t, .slice a N.length cap] 24) (.cells #[.int .i64 0, .slice none 0 0] 24))
  have B2 := Lib.hid (show Bk ((w.alloc (.cells #[.int .i64 t, .slice a N.length cap] 24)).alloc (.cells #[.int .i64 0, .slice none 0 0] 24)) (w.heap.size + 1) [.int .i64 0, .slice none 0 0] from by
    have h := Bk.new (w.alloc (.cells #[.int .i64 t, .slice a N.length cap] 24)) #[.int .i64 0, .slice none 0 0] 24
    simp only [World.size_alloc] at h; exact h)
  have HB := Lib.hid b2
  have HN := Lib.hid hN
  have HS := Lib.hid hsm
  have HL := Lib.hid hl
  have hj : y < N.length := (List.getElem?_eq_some_iff.1 hn0).1
  have h0' : decide ((y : Int) < 0) = false := decide_eq_false (by omega)
  have h1' : decide (N.length ≤ y) = false := decide_eq_false (by omega)
  have h1n : ¬ N.length ≤ y := by omega
  have hj0 : (0 : Int) ≤ (y : Int) := by omega
  have hj1 : (y : Int) < (N.length : Int) := by omega
  have hE : ∃ b o, a = some ⟨b, o, none⟩ ∧ w.cell? ⟨b, o + y * 6, none⟩ = some (.bool false) := by
    obtain ⟨b, o, qa, qc, e, hna⟩ := hN.2.2 y n0 hn0
    have e0 := hna.c0
    rw [hr0] at e0
    exact ⟨b, o, e, e0⟩
  obtain ⟨b, o, rfl, e0⟩ := hE
  have HE := Lib.hid e0
  unfold trv at cm ⊢
  clear b2 hN h hn0 hr0 hsm hl e0
  go_enter Try.func24, Try.ntmps24
  go_upto_region 3 with (go_at_call 19; ((with_reducible refine cm.mono ?_); clear cm; rintro e w3 ⟨rfl, hb3⟩; have R1 := Lib.hid (B1.out.keep hb3); have R2 := Lib.hid (B2.out.keep hb3); have HB3 := Lib.hid (bel2 HB.out hb3); clear hb3; have k0 := R1.out.at_ 0 _ rfl; have k1 := R1.out.at_ 1 _ rfl; have k2 := kc HB3.out HE.out))
  clear k2 h0' h1' h1n
  have hz : w.heap.size + 1 < w3.heap.size := R2.out.lt
  have TA := Lib.hid (show Tw (w.heap.size + 1) w3 (w3.heap.size + 1) w3.heap.size t N ((w3.alloc (.cells (mkN N.length) 47)).alloc (.cells #[.int .i64 t, .slice (some ⟨w3.heap.size, 0, none⟩) N.length N.length] 24)).drew (List.replicate N.length RN.z) from
    ⟨(bel1 (al1 _) _).drew, by
      have h := (Bk.new (w3.alloc (.cells (mkN N.length) 47)) #[.int .i64 t, .slice (some ⟨w3.heap.size, 0, none⟩) N.length N.length] 24).drew
      simp only [World.size_alloc] at h; exact h, ((NRow.made w3 N.length hl1 (fun k => k = w.heap.size + 1) (fun h => by have h : w3.heap.size = w.heap.size + 1 := h; omega)).keep (al1 _)).drew, List.length_replicate .., by omega, Nat.le_refl _, by omega, hz⟩)
  have TB := Lib.hid (show Tw (w.heap.size + 1) w3 w3.heap.size (w3.heap.size + 1) t N ((w3.alloc (.cells #[.int .i64 t, .slice (some ⟨w3.heap.size + 1, 0, none⟩) N.length N.length] 24)).alloc (.cells (mkN N.length) 47)).drew (List.replicate N.length RN.z) from
    ⟨(bel1 (al1 _) _).drew, ((Bk.new w3 #[.int .i64 t, .slice (some ⟨w3.heap.size + 1, 0, none⟩) N.length N.length] 24).past _).drew, by
      have h := (NRow.made (w3.alloc (.cells #[.int .i64 t, .slice (some ⟨w3.heap.size + 1, 0, none⟩) N.length N.length] 24)) N.length hl1 (fun k => k = w.heap.size + 1) (fun h => by have h : (w3.alloc _).heap.size = w.heap.size + 1 := h; simp at h; omega)).drew
      simp only [World.size_alloc] at h; exact h, List.length_replicate .., by omega, by omega, Nat.le_refl _, hz⟩)
  have hNne : ¬ N = [] := fun e => by rw [e] at hj; exact absurd hj (by simp)
  have HZ := Lib.hid hz
  have h1z : w.heap.size < w3.heap.size := by omega
  clear hz
  go_cut [10] from 36 to 42 (fun x wx => ∃ q9 gq, x = .pointer (some ⟨q9, 0, none⟩) ∧ Tw (w.heap.size + 1) w3 q9 gq t N wx (List.replicate N.length RN.z))
  case first =>
    go_region
    all_goals go_wp2_with (fail)
    all_goals go_meet
    case rel => exact ⟨_, _, rfl, TA.out⟩
    case rel => exact ⟨_, _, rfl, TB.out⟩
  case rest =>
    obtain ⟨q9, gq, rfl, hTw⟩ := hcut
    have HU0 := Lib.hid hTw
    have q1 := (R1.out.keep hTw.b).at_ 1 _ rfl
    clear TA TB hNne h1z k0 k1 hTw B1 B2 HB
    go_wp2_with (fail)
    go_loopw [46] (fun i wr => ∃ (j : Nat) (M : List RN), j ≤ N.length ∧ i = .int .i64 j ∧ Tw (w.heap.size + 1) w3 q9 gq t N wr M ∧ ∀ i, i < j → (M.map (fun m => m.n))[i]? = N[i]?) (fun i _ => N.length - (intOf i).toNat)
    case atStart => exact ⟨0, _, Nat.zero_le _, rfl, HU0.out, fun i hi => absurd hi (Nat.not_lt_zero i)⟩
    case round =>
      obtain ⟨j, M, hjn, rfl, hTw, hd⟩ := hrel
      have HU := Lib.hid hTw
      have HD := Lib.hid hd
      clear hd q1
      by_cases hlt : j < N.length
      · obtain ⟨x, hx⟩ : ∃ x, N[j]? = some x := ⟨_, List.getElem?_eq_getElem hlt⟩
        obtain ⟨b', o', qa, qc, e', hx1⟩ := (HN.out.keep (HB3.out.trans (hTw.b.mono HB3.out.size))).2.2 j x hx
        cases e'
        have HP0 := Lib.hid hx1.ps
        have hpl := HS.out.at hx
        obtain ⟨m, hm⟩ : ∃ m, M[j]? = some m := ⟨_, List.getElem?_eq_getElem (by rw [hTw.l]; exact hlt)⟩
        have HM := Lib.hid hm
        have HX := Lib.hid hx
        have hj0 : (0 : Int) ≤ (j : Int) := by omega
        have hjl : (j : Int) < (N.length : Int) := by omega
        obtain ⟨e0, e1, e2, e3, e4, e5, -⟩ := hx1
        obtain ⟨r, kk, lf, bb, p, sx⟩ := x
        dsimp only at e0 e1 e2 e3 e4 e5 HP0 hpl
        have cn := fun W (h : Prs W qa qc p) => cnode_any ⟨r, kk, lf, bb, p, sx⟩ qa qc W h (show p.length ≤ 100000 by omega)
        unfold CnIs ndv at cn
        dsimp only at cn
        have hu1 := (hTw.u.keep (al1 (.cells #[.bool r, .int .i64 kk, .int .i64 lf, .int .i64 bb, .slice qa p.length qc, .int .i64 sx] 47))).at_ 1 _ rfl
        obtain ⟨g', eg, -, hna, hfz⟩ := hTw.r.at hm
        cases eg
        have NM := Lib.hid (And.intro hna hfz)
        have hgl := World.block_lt_of_cell? wr _ hna.c0
        have HG := Lib.hid (show gq < wr.heap.size from hgl)
        clear hm hx hTw hpl hna hfz hgl
        have HDD := Lib.hid (show ∀ ao7 cp7, ∀ i, i < j + 1 → ((M.set j ⟨⟨r, kk, lf, bb, p, sx⟩, ao7, cp7⟩).map (fun m => m.n))[i]? = N[i]? from fun ao7 cp7 i hi => by
          by_cases e : i = j
          · subst e
            rw [List.getElem?_map, List.getElem?_set_self (by rw [HU.out.l]; exact hlt), HX.out]; rfl
          · rw [List.getElem?_map, List.getElem?_set_ne (fun e' => e e'.symm), ← List.getElem?_map]
            exact HD.out i (by omega))
        go_upto_region 7 with (fail)
        go_region_with (go_at_call 50; (first | (with_reducible refine (cn _ (HP0.out.below (al1 _))).mono ?_) | (with_reducible refine (cn _ (HP0.out.below (al1 _).drew)).mono ?_)); rintro e w7 ⟨ao7, cp7, rfl, hR7, hb7⟩; first | (have H7 := Lib.hid (show PRow w7 (fun j => j < wr.heap.size) (.slice ao7 p.length cp7) p ∧ Below wr.heap.size wr w7 from ⟨hR7.sub (fun k _ hk => Nat.lt_trans hk (by simp)), bel2 (al1 _) hb7⟩)) | (have H7 := Lib.hid (show PRow w7 (fun j => j < wr.heap.size) (.slice ao7 p.length cp7) p ∧ Below wr.heap.size wr w7 from ⟨hR7.sub (fun k _ hk => Nat.lt_trans hk (by simp [World.drew])), bel2 (al1 _).drew hb7⟩)); clear hR7 hb7; have hu2 := (HU.out.u.keep H7.out.2).at_ 1 _ rfl; obtain ⟨x0, x1, x2, x3, x4, x5, -⟩ := NM.out.1.keep H7.out.2; have fz := fun j => (Bk.keep ⟨HG.out, fun j v hj => (by cases hj), NM.out.2⟩ H7.out.2 : Bk _ gq []).fr j)
        all_goals
          go_wp2_with (fail)
          go_roundw
          case rel =>
            first
              | exact ⟨j + 1, _, by omega, by go_num, HU.out.put HM.out ⟨⟨r, kk, lf, bb, p, sx⟩, ao7, cp7⟩ H7.out.2 H7.out.1 (Below.refl _ _), HDD.out _ _⟩
              | exact ⟨j + 1, _, by omega, by go_num, HU.out.put HM.out ⟨⟨r, kk, lf, bb, p, sx⟩, ao7, cp7⟩ H7.out.2 H7.out.1 ((Below.refl _ _).drew), HDD.out _ _⟩
              | exact ⟨j + 1, _, by omega, by go_num, (HU.out.put HM.out ⟨⟨r, kk, lf, bb, p, sx⟩, ao7, cp7⟩ H7.out.2 H7.out.1 (Below.refl _ _)).drew, HDD.out _ _⟩
          case measure => simp [intOf]; omega
      · obtain rfl : j = N.length := by omega
        have hMN : M.map (fun m => m.n) = N := by
          apply List.ext_getElem?
          intro i
          by_cases hi : i < N.length
          · exact HD.out i hi
          · rw [List.getElem?_eq_none (by rw [List.length_map, hTw.l]; omega), List.getElem?_eq_none (by omega)]
        have HMN := Lib.hid hMN
        obtain ⟨m, hm⟩ : ∃ m, M[y]? = some m := ⟨_, List.getElem?_eq_getElem (by rw [hTw.l]; exact hj)⟩
        have HM := Lib.hid hm
        have hb3' := HB3.out.trans (hTw.b.mono HB3.out.size)
        have HP0 := Lib.hid (HL.out.below hb3')
        have HBR := Lib.hid hb3'
        have cc := fun W (h : Prs W pa pc l) => copied_any pa pc l W h (by omega)
        unfold RowIs at cc
        have hu1 := hTw.u.at_ 1 _ rfl
        obtain ⟨g', eg, -, hna, hfz⟩ := hTw.r.at hm
        cases eg
        have NM := Lib.hid (And.intro hna hfz)
        have hgl := World.block_lt_of_cell? wr _ hna.c0
        have HG := Lib.hid (show gq < wr.heap.size from hgl)
        have R2' := Lib.hid (R2.out.keep hTw.b)
        clear hm hTw hna hfz hgl hMN hb3'
        go_upto_region 9 with (fail)
        go_region_with (go_at_call 51; (first | (with_reducible refine (cc _ HP0.out).mono ?_) | (with_reducible refine (cc _ (HP0.out.below (Below.refl _ _).drew)).mono ?_)); rintro e w7 ⟨ao7, cp7, rfl, hR7, hb7⟩; first | (have H7 := Lib.hid (show PRow w7 (fun j => j < wr.heap.size) (.slice ao7 l.length cp7) l ∧ Below wr.heap.size wr w7 from ⟨hR7, hb7⟩)) | (have H7 := Lib.hid (show PRow w7 (fun j => j < wr.heap.size) (.slice ao7 l.length cp7) l ∧ Below wr.heap.size wr w7 from ⟨hR7, (Below.refl _ _).drew.trans hb7⟩)); clear hR7 hb7; have hu2 := (HU.out.u.keep H7.out.2).at_ 1 _ rfl; obtain ⟨x0, x1, x2, x3, x4, x5, -⟩ := NM.out.1.keep H7.out.2; have fz := fun j => (Bk.keep ⟨HG.out, fun j v hj => (by cases hj), NM.out.2⟩ H7.out.2 : Bk _ gq []).fr j)
        all_goals
          have T9 := Lib.hid (show Tw (w.heap.size + 1) w3 q9 gq t N ((((((w7.setCell ⟨gq, y * 6, none⟩ (.bool false)).setCell ⟨gq, y * 6 + 1, none⟩ (.int .i64 0)).setCell ⟨gq, y * 6 + 2, none⟩ (.int .i64 0)).setCell ⟨gq, y * 6 + 3, none⟩ (.int .i64 0)).setCell ⟨gq, y * 6 + 4, none⟩ (.slice ao7 l.length cp7)).setCell ⟨gq, y * 6 + 5, none⟩ (.int .i64 st)) (M.set y ⟨lfn l st, ao7, cp7⟩) from
            HU.out.put HM.out ⟨lfn l st, ao7, cp7⟩ H7.out.2 H7.out.1 (Below.refl _ _))
          go_upto_region 10 with (fail)
          first | generalize ((((((World.setCell w7 ⟨gq, y * 6, none⟩ _).setCell _ _).setCell _ _).setCell _ _).setCell _ _).setCell _ _ : World) = X9 at T9 ⊢ | fail
          have hQl : (N.set y (lfn l st)).length = N.length := List.length_set ..
          have hQM : (M.set y ⟨lfn l st, ao7, cp7⟩).map (fun m => m.n) = N.set y (lfn l st) := by rw [List.map_set, HMN.out]
          have hNQ : Ns X9 (some ⟨gq, 0, none⟩) N.length (N.set y (lfn l st)) := by have h := T9.out.r.ns.2; rw [hQM] at h; exact h
          have hsQ : Small (N.set y (lfn l st)) := ⟨by rw [hQl]; exact hl1, fun n hn => by
            rcases List.mem_or_eq_of_mem_set hn with h | rfl
            · exact HS.out.2 n h
            · exact hll⟩
          have cmq := tmay_any t (some ⟨gq, 0, none⟩) N.length (N.set y (lfn l st)) X9 hNQ hsQ B hB
          unfold trv at cmq
          rw [hQl] at cmq
          have HNQ := Lib.hid hNQ
          have T10 := Lib.hid (R2.out.keep T9.out.b)
          have p0 := T9.out.u.at_ 0 _ rfl
          have p1 := T9.out.u.at_ 1 _ rfl
          have HQL := Lib.hid hQl
          have HB9 := Lib.hid (HB3.out.trans (T9.out.b.mono HB3.out.size))
          clear hQl hQM hNQ hsQ hu1 hu2 x0 x1 x2 x3 x4 x5 fz cc hB
          cases B
          · go_wp2_with (go_at_call 19; ((with_reducible refine cmq.mono ?_); clear cmq; rintro e w8 ⟨rfl, hb8⟩; have R8 := Lib.hid (T10.out.keep hb8); have HB8 := Lib.hid (bel2 HB9.out hb8); clear hb8; have g0 := R8.out.fr 0; have g1 := R8.out.fr 1; have m0 := R8.out.at_ 0 _ rfl; have m1 := R8.out.at_ 1 _ rfl))
            refine bodyPost_ret (v := .tuple #[.agg #[.int .i64 0, .slice none 0 0], .bool false]) (by simp [results, Try.results24, go_sem, m0, m1]) rfl ⟨none, 0, rfl, Ns.none _, ?_⟩
            repeat' (first | refine Below.setCell ?_ (by dsimp only; omega) _ | exact HB8.out)
          · go_wp2_with (go_at_call 19; ((with_reducible refine cmq.mono ?_); clear cmq; rintro e w8 ⟨rfl, hb8⟩; have R8 := Lib.hid (T10.out.keep hb8); have HB8 := Lib.hid (bel2 HB9.out hb8); have T8 := Lib.hid (T9.out.keep hb8); clear hb8; have y0 := T8.out.u.at_ 0 _ rfl; have y1 := T8.out.u.at_ 1 _ rfl; have g0 := R8.out.fr 0; have g1 := R8.out.fr 1; have m0 := R8.out.at_ 0 _ rfl; have m1 := R8.out.at_ 1 _ rfl))
            refine bodyPost_ret (v := .tuple #[.agg #[.int .i64 t, .slice (some ⟨gq, 0, none⟩) N.length N.length], .bool true]) (by simp [results, Try.results24, go_sem, m0, m1]) rfl ⟨some ⟨gq, 0, none⟩, N.length, by simp, ?_, ?_⟩
            · have hn := (T8.out.r.only (S := fun k => k = w.heap.size + 1) (W' := (w8.setCell ⟨w.heap.size + 1, 0, none⟩ (.int .i64 t)).setCell ⟨w.heap.size + 1, 1, none⟩ (.slice (some ⟨gq, 0, none⟩) N.length N.length)) (((Only.refl _ w8).setCell (S := fun k => k = w.heap.size + 1) (p := ⟨w.heap.size + 1, 0, none⟩) (.inl rfl) _).setCell (S := fun k => k = w.heap.size + 1) (p := ⟨w.heap.size + 1, 1, none⟩) (.inl rfl) _) (fun k hk => hk)).ns.2
              rw [List.map_set, HMN.out] at hn
              exact hn
            · repeat' (first | refine Below.setCell ?_ (by dsimp only; omega) _ | exact HB8.out)
theorem tset_any (t : Int) (a : Option Addr) (cap : Nat) (N : List Nd) (y : Int) (pa : Option Addr) (pc : Nat) (l : List Pr) (st : Int) (w : World) (hN : Ns w a cap N) (hsm : Small N) (hl : Prs w pa pc l) (hll : l.length ≤ 2100)
    (r : Int) (Q : List Nd) (x : Bool) (h : SetO N t y l st r Q x) :
    Calls Try.prog 24 #[trv t a cap N, .int .i64 y, .slice pa l.length pc, .int .i64 st] w (SetIs w r Q x) := by
  rcases h with ⟨rfl, rfl, ht, j, n, rfl, hn, hr, rfl, hs⟩ | ⟨rfl, rfl, rfl, h⟩
  · exact tset_yes _ a cap N j n pa pc l st w hN hsm hl hll ht hn hr true ⟨fun _ => hs, fun _ => rfl⟩
  · rcases Classical.em (∃ s, Tr N s t) with ht | ht
    · rcases Classical.em (∃ (j : Nat) (n : Nd), y = j ∧ N[j]? = some n ∧ n.r = false) with ⟨j, n, rfl, hn, hr⟩ | h2
      · exact tset_yes t a cap N j n pa pc l st w hN hsm hl hll ht hn hr false ⟨fun h => (by cases h), fun hs => absurd ⟨ht, j, n, rfl, hn, hr, hs⟩ h⟩
      · refine tset_no t a cap N y pa pc l st w hN hsm (.inr ⟨ht, fun j n hy hn => ?_⟩)
        cases hr : n.r
        · exact absurd ⟨j, n, hy, hn, hr⟩ h2
        · rfl
    · exact tset_no t a cap N y pa pc l st w hN hsm (.inl (fun s hs => ht ⟨s, hs⟩))
#print axioms tset_any
end Go.Proofs.Yteebceecohhegaa

namespace Go.Proofs.Yteebceecohhegaa
open Go.RowKit
set_option linter.all false

/-- With a leaf anew it is a tree just if the pairs may stand there. -/
theorem tr_set {N : List Nd} {s : Sh} {t : Int} (h : Tr N s t) {i : Nat} {l : List Pr} {st : Int} (hi : i ∈ s.lvs) :
    (∃ s', Tr (N.set i (lfn l st)) s' t) ↔ (-1000000 ≤ st ∧ st ≤ 1000000 ∧ Srt l ∧ ∀ q ∈ l, InLf N s none none i q.1) := by
  have hil : i < N.length := h.hg.lt i (lvs_pre s i hi)
  have hs := hangs_set (l := l) (st := st) hil h.hg h.nd hi
  constructor
  · rintro ⟨s', h'⟩
    have hr : ∀ n, N[i]? = some n → n.r = false := fun n hn => by
      have := hi
      rw [lvs_filter h.hg, List.mem_filter, nd_of hn] at this
      simpa using this.2
    have e : s = s' := Hangs.one (N := N) (M := N.set i (lfn l st)) (fun j n m hn hm => by
      by_cases e : i = j
      · subst e
        rw [List.getElem?_set_self hil] at hm
        cases hm
        exact ⟨hr n hn, fun h => by rw [hr n hn] at h; cases h⟩
      · rw [List.getElem?_set_ne e, hn] at hm
        cases hm
        exact ⟨rfl, fun _ => ⟨rfl, rfl⟩⟩) h.hg h'.hg
    subst e
    exact hs.1 h'.hg
  · intro hh
    exact ⟨s, ⟨by rw [List.length_set]; exact h.le, hs.2 hh, h.nd, by rw [List.length_set]; exact h.all⟩⟩
/-- A pair more may stand in its own leaf alone. -/
theorem tr_with {N : List Nd} {s : Sh} {t : Int} (h : Tr N s t) {i : Nat} (hi : i ∈ s.lvs) (k v : Int) :
    (∃ s', Tr (N.set i (lfn (withL (nd N i).p k v) 0)) s' t) ↔ i = (dn N k s).i := by
  have hil : i < N.length := h.hg.lt i (lvs_pre s i hi)
  have hsrt : Srt (nd N i).p := by
    obtain ⟨n, lo, hh, hn, hl, _⟩ := hangs_leaf h.hg i (lvs_pre s i hi)
    have hr : n.r = false := by
      have := hi
      rw [lvs_filter h.hg, List.mem_filter, nd_of hn] at this
      simpa using this.2
    rw [nd_of hn]
    exact (hl hr).2.2.2.2.2.1
  rw [tr_set h hi, ← inLf_dn h.hg (inS_any k)]
  constructor
  · rintro ⟨_, _, _, hq⟩
    exact hq (k, v) (by rw [withL_srt _ _ _ hsrt]; simp)
  · intro hk
    refine ⟨by decide, by decide, withL_is_srt _ _ _ hsrt, fun q hq => ?_⟩
    rcases withL_mem hsrt hq with rfl | hq
    · exact hk
    · exact inLf_own h.hg i hi q hq
theorem setO_with {N : List Nd} {s : Sh} {t : Int} (h : Tr N s t) {i : Nat} (hi : i ∈ s.lvs) (k v : Int) (x : Bool) (hx : ((i : Int) == ((dn N k s).i : Int)) = x) :
    ∃ r Q, SetO N t i (withL (nd N i).p k v) 0 r Q x := by
  have hil : i < N.length := h.hg.lt i (lvs_pre s i hi)
  have hr : (nd N i).r = false := by
    have := hi
    rw [lvs_filter h.hg, List.mem_filter] at this
    simpa using this.2
  have ht := tr_with h hi k v
  cases x
  · refine ⟨0, [], .inr ⟨rfl, rfl, rfl, ?_⟩⟩
    rintro ⟨_, j, n, e, hn, _, hs⟩
    have e2 : i = j := by omega
    subst e2
    have := ht.1 hs
    rw [beq_eq_false_iff_ne] at hx
    omega
  · have e : i = (dn N k s).i := by have := eq_of_beq hx; omega
    exact ⟨t, _, .inl ⟨rfl, rfl, ⟨s, h⟩, i, nd N i, rfl, nd_get hil, hr, rfl, ht.2 e⟩⟩
end Go.Proofs.Yteebceecohhegaa
