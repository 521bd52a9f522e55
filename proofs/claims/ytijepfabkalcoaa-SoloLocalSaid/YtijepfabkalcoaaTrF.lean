/- check.from exactly. No condition: lemmas. slices.Contains over bools, tree.May. No condition: lemmas. tree.walk, osierref1.leaves: places appended onto a row of one's own. No condition: lemmas. osierref1.leaves. No condition: lemmas. -/
import Derived.Test.YtijepfabkalcoaaTrE
import Derived.Test.YtijepfabkalcoaaNuG
import Derived.Test.YtijepfabkalcoaaTrM
namespace Go.Proofs.Ytijepfabkalcoaa
open Go.RowKit
set_option linter.all false

theorem Bs.below_lt {W W' : World} {g : Nat} {sn : List Bool} (h : Bs W g sn) (hb : Below W.heap.size W W') : Bs W' g sn ∧ Only (fun k => k = g) W W' := ⟨h.keep hb, Only.ofBelow hb⟩
theorem from_any {a : Option Addr} {cap : Nat} {N : List Nd} {w0 : World} {g sc : Nat} (hN : Ns w0 a cap N) (hsm : Small N) (hg0 : w0.heap.size ≤ g) : ∀ f, FromOk w0 a cap N g sc f := by
  intro f
  induction f with
  | zero => intro sn t x y hl hh W hf; exact absurd hf (Nat.not_lt_zero _)
  | succ f IH =>
    intro sn t x y hl hh W hf hsl hB hb B hBP
    have none : (∀ s, ¬ Part N sn t (oo hl x) (oo hh y) s) → B = false := fun h => by
      cases B
      · rfl
      · obtain ⟨s, hs⟩ := hBP.1 rfl; exact absurd hs (h s)
    have some_ : ∀ s, Part N sn t (oo hl x) (oo hh y) s → B = true := fun s h => hBP.2 ⟨s, h⟩
    by_cases h1 : 0 ≤ t ∧ t < (N.length : Int)
    case neg =>
      obtain rfl := none (part_out h1)
      exact (from_out h1 (by have := hsm.1; omega)).mono (fun e w' hh => ⟨hh.1, sn, rfl, (hB.below_lt hh.2).1, (hB.below_lt hh.2).2, fun s hs => absurd hs (part_out h1 s)⟩)
    obtain ⟨i, rfl⟩ : ∃ i : Nat, t = i := ⟨t.toNat, by omega⟩
    have hi : i < N.length := by omega
    obtain ⟨n, hn⟩ : ∃ n, N[i]? = some n := ⟨_, List.getElem?_eq_getElem hi⟩
    obtain ⟨v, hv⟩ : ∃ v, sn[i]? = some v := ⟨_, List.getElem?_eq_getElem (by omega)⟩
    cases v
    case true =>
      obtain rfl := none (part_seen rfl hv)
      exact (from_seen hsm.1 hi hsl hv hB rfl).mono (fun e w' hh => ⟨hh.1, sn, rfl, (hB.below_lt hh.2).1, (hB.below_lt hh.2).2, fun s hs => absurd hs (part_seen rfl hv s)⟩)
    cases hr : n.r with
    | false =>
      by_cases hk : okL n (oo hl x) (oo hh y)
      · have hp := part_lf (N := N) (t := (i : Int)) rfl hn hr hv hk
        obtain rfl := some_ _ hp
        exact (from_leaf hN hsm hg0 hn hr hsl hv hb hB rfl true ⟨fun _ => hk, fun _ => rfl⟩).mono (fun e w' hh => ⟨hh.1, sn.set i true, by rw [List.length_set], hh.2.1, hh.2.2, fun s hs => by rw [hs.1.uniq hp.1]; rfl⟩)
      · obtain rfl := none (part_lf_no rfl hn hr hk)
        exact (from_leaf hN hsm hg0 hn hr hsl hv hb hB rfl false ⟨fun h => (by cases h), fun h => absurd h hk⟩).mono (fun e w' hh => ⟨hh.1, sn.set i true, by rw [List.length_set], hh.2.1, hh.2.2, fun s hs => absurd hs (part_lf_no rfl hn hr hk s)⟩)
    | true =>
      by_cases hk : okR n (oo hl x) (oo hh y)
      case neg =>
        obtain rfl := none (part_rt_no rfl hn hr hk)
        exact (from_no1 hN hsm hg0 hn hr hsl hv hb hB rfl hk).mono (fun e w' ⟨sn', h1, h2, h3, h4⟩ => ⟨h1, sn', h2, h3, h4, fun s hs => absurd hs (part_rt_no rfl hn hr hk s)⟩)
      by_cases hL : ∃ s, Part N (sn.set i true) n.a (oo hl x) (some n.k) s
      case neg =>
        have hL' : ∀ s, ¬ Part N (sn.set i true) n.a (oo hl x) (some n.k) s := fun s hs => hL ⟨s, hs⟩
        obtain rfl := none (part_left_no rfl hn hr hL')
        exact (from_no2 hN hsm hg0 hn hr hsl hv hb hB rfl hk hf IH hL').mono (fun e w' ⟨sn', h1, h2, h3, h4⟩ => ⟨h1, sn', h2, h3, h4, fun s hs => absurd hs (part_left_no rfl hn hr hL' s)⟩)
      obtain ⟨sl, hL⟩ := hL
      by_cases hR : ∃ s, Part N (mark (sn.set i true) sl.pre) n.b (some n.k) (oo hh y) s
      case neg =>
        have hR' : ∀ s, ¬ Part N (mark (sn.set i true) sl.pre) n.b (some n.k) (oo hh y) s := fun s hs => hR ⟨s, hs⟩
        obtain rfl := none (part_right_no rfl hn hr hL hR')
        exact (from_no3 hN hsm hg0 hn hr hsl hv hb hB rfl hk hf IH hL hR').mono (fun e w' ⟨sn', h1, h2, h3, h4⟩ => ⟨h1, sn', h2, h3, h4, fun s hs => absurd hs (part_right_no rfl hn hr hL hR' s)⟩)
      obtain ⟨sr, hR⟩ := hR
      have hp := part_rt rfl hn hr hv hk hL hR
      obtain rfl := some_ _ hp
      exact (from_yes hN hsm hg0 hn hr hsl hv hb hB rfl hk hf IH hL hR).mono (fun e w' ⟨sn', h1, h2, h3, h4, h5⟩ => ⟨h1, sn', h2, h3, h4, fun s hs => by rw [hs.1.uniq hp.1, h5]; rfl⟩)
end Go.Proofs.Ytijepfabkalcoaa

namespace Go.Proofs.Ytijepfabkalcoaa
open Go.RowKit
set_option linter.all false

set_option maxRecDepth 100000 in
set_option maxHeartbeats 6400000 in
theorem ixb_any (g sc : Nat) (sn : List Bool) (w : World) (h : Bs w g sn) (hl : sn.length ≤ 100000000000) (hsc : sn.length ≤ sc) (hscm : sc ≤ maxLen) :
    Calls Try.prog 71 #[.slice (some ⟨g, 0, none⟩) sn.length sc, .bool false] w fun e w' => (∃ n : Int, e = .returned (.int .i64 n) ∧ (0 ≤ n ↔ false ∈ sn)) ∧ Below w.heap.size w w' := by
  have HH := Lib.hid h
  clear h
  unfold maxLen at hscm
  go_enter Try.func71, Try.ntmps71
  go_wp2_with (fail)
  go_loopw [8] (fun i wr => ∃ n : Nat, n ≤ sn.length ∧ i = .int .i64 n ∧ (false ∉ sn.take n) ∧ w = wr) (fun i _ => sn.length - (intOf i).toNat)
  case atStart => exact ⟨0, Nat.zero_le _, rfl, by simp, rfl⟩
  case round =>
    obtain ⟨n, hn, rfl, hno, rfl⟩ := hrel
    have HNO := Lib.hid hno
    clear hno
    by_cases hlt : n < sn.length
    · obtain ⟨q, hq⟩ : ∃ q, sn[n]? = some q := ⟨_, List.getElem?_eq_getElem hlt⟩
      have c0 := HH.out.at_ n q hq
      have HQ := Lib.hid hq
      clear hq
      cases q
      · go_wp2_with (fail)
        go_ret
        exact ⟨⟨_, rfl, ⟨fun _ => List.mem_of_getElem? HQ.out, fun _ => by omega⟩⟩, Below.refl _ _⟩
      · go_wp2_with (fail)
        go_roundw
        case rel =>
          refine ⟨n + 1, by omega, by go_num, fun hz => ?_, trivial⟩
          rw [List.take_succ, HQ.out] at hz
          simp at hz
          exact HNO.out hz
        case measure => simp [intOf]; omega
    · obtain rfl : n = sn.length := by omega
      go_wp2_with (fail)
      go_ret
      exact ⟨⟨_, rfl, ⟨fun h => absurd h (by decide), fun h => absurd (by rw [List.take_of_length_le (Nat.le_refl _)]; exact h) HNO.out⟩⟩, Below.refl _ _⟩
theorem ctb_any (g sc : Nat) (sn : List Bool) (w : World) (h : Bs w g sn) (hl : sn.length ≤ 100000000000) (hsc : sn.length ≤ sc) (hscm : sc ≤ maxLen) (B : Bool) (hB : B = true ↔ false ∈ sn) :
    Calls Try.prog 37 #[.slice (some ⟨g, 0, none⟩) sn.length sc, .bool false] w fun e w' => e = .returned (.bool B) ∧ Below w.heap.size w w' := by
  have c := ixb_any g sc sn w h hl hsc hscm
  rw [← hB] at c
  clear hB
  go_enter Try.func37, Try.ntmps37
  go_wp2_with (go_at_call 71; ((with_reducible refine c.mono ?_); clear c; rintro e w2 ⟨⟨n, rfl, hn⟩, hb2⟩))
  go_ret
  exact ⟨by cases B <;> simp_all, hb2⟩

theorem infoBool : (Try.prog.info? 4).map (fun i => (i.zero, i.size, i.bytes)) = some (some (.bool false), 1, 1) := by kernel_rfl
/-- So many bools, all false. -/
def mkB (n : Nat) : Array Value := madeCells (Value.bool false).cells n
theorem mkB_run (n : Nat) (h : n ≤ 2000) (w : World) : (Instr.makeSlice 74 (.int .i64 (n : Int)) (.int .i64 (n : Int))).run Try.prog w = .ok (.slice (some ⟨w.heap.size, 0, none⟩) n n) (w.alloc (.cells (mkB n) 4)) := by
  obtain ⟨i, hi, hz, hs1, hs2⟩ := info_parts infoBool
  have hr := run_make (P := Try.prog) w 74 4 i _ Try.underlying74 hi hz .i64 .i64 n n (by omega) (Int.le_refl _) (by rw [hs2]; omega) (by omega)
  rw [hs1] at hr
  simpa [mkB] using hr
theorem mkB_bs (w : World) (n : Nat) : Bs (w.alloc (.cells (mkB n) 4)) w.heap.size (List.replicate n false) := by
  refine ⟨by simp, fun j v hj => ?_, fun j => by simp [go_sem]⟩
  rw [World.cell?_alloc_new]
  have : (mkB n).toList = List.replicate n (.bool false) := by
    exact toList_madeCells_one _ _
  rw [← Array.getElem?_toList, this]
  rw [List.getElem?_replicate] at hj ⊢
  split at hj
  · cases hj; rw [if_pos (by assumption)]
  · cases hj
attribute [local go_sem] mkB_run

set_option maxRecDepth 100000 in
set_option maxHeartbeats 6400000 in
theorem tmay_no (t : Int) (a : Option Addr) (cap : Nat) (N : List Nd) (w : World) (hN : Ns w a cap N) (hsm : Small N) (P : ∀ s, ¬ Part N (List.replicate N.length false) t none none s) :
    Calls Try.prog 11 #[trv t a cap N] w fun e w' => e = .returned (.bool false) ∧ Below w.heap.size w w' := by
  unfold trv
  have hl1 := hsm.1
  have hc1 := hN.1
  have hc2 := hN.2.1
  have P1 := Lib.hid (show Bs ((((w.alloc (.cells #[.int .i64 t, .slice a N.length cap] 24)).alloc (.cells (mkB N.length) 4)).alloc (.cells #[.slice a N.length cap, .slice (some ⟨w.heap.size + 1, 0, none⟩) N.length N.length] 76)).drew) (w.heap.size + 1) (List.replicate N.length false) ∧ Below w.heap.size w ((((w.alloc (.cells #[.int .i64 t, .slice a N.length cap] 24)).alloc (.cells (mkB N.length) 4)).alloc (.cells #[.slice a N.length cap, .slice (some ⟨w.heap.size + 1, 0, none⟩) N.length N.length] 76)).drew) ∧ ((((w.alloc (.cells #[.int .i64 t, .slice a N.length cap] 24)).alloc (.cells (mkB N.length) 4)).alloc (.cells #[.slice a N.length cap, .slice (some ⟨w.heap.size + 1, 0, none⟩) N.length N.length] 76)).drew).cell? ⟨w.heap.size + 1 + 1, 1, none⟩ = some (.slice (some ⟨w.heap.size + 1, 0, none⟩) N.length N.length) from by
    refine ⟨?_, (bel1 (bel1 (al1 _) _) _).drew, by simp [go_sem]⟩
    have h := (mkB_bs (w.alloc (.cells #[.int .i64 t, .slice a N.length cap] 24)) N.length).keep (al1 (.cells #[.slice a N.length cap, .slice (some ⟨w.heap.size + 1, 0, none⟩) N.length N.length] 76))
    simp only [World.size_alloc] at h
    exact ⟨h.lt, h.at_, h.fr⟩)
  have P2 := Lib.hid (show Bs ((((w.alloc (.cells #[.int .i64 t, .slice a N.length cap] 24)).alloc (.cells #[.slice a N.length cap, .slice (some ⟨w.heap.size + 1 + 1, 0, none⟩) N.length N.length] 76)).alloc (.cells (mkB N.length) 4)).drew) (w.heap.size + 1 + 1) (List.replicate N.length false) ∧ Below w.heap.size w ((((w.alloc (.cells #[.int .i64 t, .slice a N.length cap] 24)).alloc (.cells #[.slice a N.length cap, .slice (some ⟨w.heap.size + 1 + 1, 0, none⟩) N.length N.length] 76)).alloc (.cells (mkB N.length) 4)).drew) ∧ ((((w.alloc (.cells #[.int .i64 t, .slice a N.length cap] 24)).alloc (.cells #[.slice a N.length cap, .slice (some ⟨w.heap.size + 1 + 1, 0, none⟩) N.length N.length] 76)).alloc (.cells (mkB N.length) 4)).drew).cell? ⟨w.heap.size + 1, 1, none⟩ = some (.slice (some ⟨w.heap.size + 1 + 1, 0, none⟩) N.length N.length) from by
    refine ⟨?_, (bel1 (bel1 (al1 _) _) _).drew, by simp [go_sem]⟩
    have h := (mkB_bs ((w.alloc (.cells #[.int .i64 t, .slice a N.length cap] 24)).alloc (.cells #[.slice a N.length cap, .slice (some ⟨w.heap.size + 1 + 1, 0, none⟩) N.length N.length] 76)) N.length)
    simp only [World.size_alloc] at h
    exact ⟨h.lt, h.at_, h.fr⟩)
  have cf := fun (g : Nat) (W : World) (hB : Bs W g (List.replicate N.length false)) (hb : Below w.heap.size w W) (hg : w.heap.size ≤ g) => from_any (sc := N.length) hN hsm hg (cnt (List.replicate N.length false) + 1) (List.replicate N.length false) t 0 0 false false W (Nat.lt_succ_self _) (List.length_replicate ..) hB hb false (⟨fun h => (by cases h), fun ⟨s, hs⟩ => absurd hs (P s)⟩)
  clear hN hc1 hc2 P
  unfold spv at cf
  go_enter Try.func11, Try.ntmps11
  go_wp2_with (fail)
  go_region
  all_goals go_wp2_with (first
    | (go_at_call 36; ((with_reducible refine (cf _ _ (by first | exact P1.out.1 | exact P2.out.1) (by first | exact P1.out.2.1 | exact P2.out.2.1) (by omega)).mono ?_); rintro e w2 ⟨rfl, sn2, hs2, hB2, hO2, hM2⟩; (first | have k1 := hO2.cell P1.out.2.2 (by show ¬ (_ = _); simp) | have k1 := hO2.cell P2.out.2.2 (by show ¬ (_ = _); simp)); have HB2 := Lib.hid (And.intro hB2 hO2)))
    | fail)
  all_goals go_ret
  all_goals exact ⟨rfl, (by first | exact P1.out.2.1.trans (HB2.out.2.below (fun i hi => by rw [hi]; omega) P1.out.2.1.size) | exact P2.out.2.1.trans (HB2.out.2.below (fun i hi => by rw [hi]; omega) P2.out.2.1.size))⟩

set_option maxRecDepth 100000 in
set_option maxHeartbeats 6400000 in
theorem tmay_yes (t : Int) (a : Option Addr) (cap : Nat) (N : List Nd) (w : World) (hN : Ns w a cap N) (hsm : Small N) (s : Sh) (P : Part N (List.replicate N.length false) t none none s) (B : Bool) (hB : B = true ↔ Tr N s t) :
    Calls Try.prog 11 #[trv t a cap N] w fun e w' => e = .returned (.bool B) ∧ Below w.heap.size w w' := by
  unfold trv
  have hl1 := hsm.1
  have hc1 := hN.1
  have hc2 := hN.2.1
  have P1 := Lib.hid (show Bs ((((w.alloc (.cells #[.int .i64 t, .slice a N.length cap] 24)).alloc (.cells (mkB N.length) 4)).alloc (.cells #[.slice a N.length cap, .slice (some ⟨w.heap.size + 1, 0, none⟩) N.length N.length] 76)).drew) (w.heap.size + 1) (List.replicate N.length false) ∧ Below w.heap.size w ((((w.alloc (.cells #[.int .i64 t, .slice a N.length cap] 24)).alloc (.cells (mkB N.length) 4)).alloc (.cells #[.slice a N.length cap, .slice (some ⟨w.heap.size + 1, 0, none⟩) N.length N.length] 76)).drew) ∧ ((((w.alloc (.cells #[.int .i64 t, .slice a N.length cap] 24)).alloc (.cells (mkB N.length) 4)).alloc (.cells #[.slice a N.length cap, .slice (some ⟨w.heap.size + 1, 0, none⟩) N.length N.length] 76)).drew).cell? ⟨w.heap.size + 1 + 1, 1, none⟩ = some (.slice (some ⟨w.heap.size + 1, 0, none⟩) N.length N.length) from by
    refine ⟨?_, (bel1 (bel1 (al1 _) _) _).drew, by simp [go_sem]⟩
    have h := (mkB_bs (w.alloc (.cells #[.int .i64 t, .slice a N.length cap] 24)) N.length).keep (al1 (.cells #[.slice a N.length cap, .slice (some ⟨w.heap.size + 1, 0, none⟩) N.length N.length] 76))
    simp only [World.size_alloc] at h
    exact ⟨h.lt, h.at_, h.fr⟩)
  have P2 := Lib.hid (show Bs ((((w.alloc (.cells #[.int .i64 t, .slice a N.length cap] 24)).alloc (.cells #[.slice a N.length cap, .slice (some ⟨w.heap.size + 1 + 1, 0, none⟩) N.length N.length] 76)).alloc (.cells (mkB N.length) 4)).drew) (w.heap.size + 1 + 1) (List.replicate N.length false) ∧ Below w.heap.size w ((((w.alloc (.cells #[.int .i64 t, .slice a N.length cap] 24)).alloc (.cells #[.slice a N.length cap, .slice (some ⟨w.heap.size + 1 + 1, 0, none⟩) N.length N.length] 76)).alloc (.cells (mkB N.length) 4)).drew) ∧ ((((w.alloc (.cells #[.int .i64 t, .slice a N.length cap] 24)).alloc (.cells #[.slice a N.length cap, .slice (some ⟨w.heap.size + 1 + 1, 0, none⟩) N.length N.length] 76)).alloc (.cells (mkB N.length) 4)).drew).cell? ⟨w.heap.size + 1, 1, none⟩ = some (.slice (some ⟨w.heap.size + 1 + 1, 0, none⟩) N.length N.length) from by
    refine ⟨?_, (bel1 (bel1 (al1 _) _) _).drew, by simp [go_sem]⟩
    have h := (mkB_bs ((w.alloc (.cells #[.int .i64 t, .slice a N.length cap] 24)).alloc (.cells #[.slice a N.length cap, .slice (some ⟨w.heap.size + 1 + 1, 0, none⟩) N.length N.length] 76)) N.length)
    simp only [World.size_alloc] at h
    exact ⟨h.lt, h.at_, h.fr⟩)
  have cf := fun (g : Nat) (W : World) (hB : Bs W g (List.replicate N.length false)) (hb : Below w.heap.size w W) (hg : w.heap.size ≤ g) => from_any (sc := N.length) hN hsm hg (cnt (List.replicate N.length false) + 1) (List.replicate N.length false) t 0 0 false false W (Nat.lt_succ_self _) (List.length_replicate ..) hB hb true (⟨fun _ => ⟨s, P⟩, fun _ => rfl⟩)
  have hB' := Lib.hid (hB.trans (part_seen_all (by omega) P))
  have HP := Lib.hid P
  have cc := fun (g : Nat) (W : World) (hBs : Bs W g (mark (List.replicate N.length false) s.pre)) => ctb_any g N.length (mark (List.replicate N.length false) s.pre) W hBs (by rw [mark_len, List.length_replicate]; omega) (by rw [mark_len, List.length_replicate]; omega) (by unfold maxLen; omega) (!B) (by
    have h := hB'.out
    cases B
    · simp at h ⊢; exact h
    · simp at h ⊢; exact h)
  rw [mark_len, List.length_replicate] at cc
  clear hB
  clear hN hc1 hc2 P
  unfold spv at cf
  go_enter Try.func11, Try.ntmps11
  go_wp2_with (fail)
  go_region
  all_goals go_wp2_with (first
    | (go_at_call 36; ((with_reducible refine (cf _ _ (by first | exact P1.out.1 | exact P2.out.1) (by first | exact P1.out.2.1 | exact P2.out.2.1) (by omega)).mono ?_); rintro e w2 ⟨rfl, sn2, hs2, hB2, hO2, hM2⟩; (first | have k1 := hO2.cell P1.out.2.2 (by show ¬ (_ = _); simp) | have k1 := hO2.cell P2.out.2.2 (by show ¬ (_ = _); simp)); have HB2 := Lib.hid (And.intro hB2 hO2); obtain rfl := hM2 s HP.out))
    | (go_at_call 37; ((with_reducible refine (cc _ _ HB2.out.1).mono ?_); rintro e w3 ⟨rfl, hb3⟩)))
  all_goals go_ret
  all_goals exact ⟨by simp, (by first | exact bel2 (P1.out.2.1.trans (HB2.out.2.below (fun i hi => by rw [hi]; omega) P1.out.2.1.size)) hb3 | exact bel2 (P2.out.2.1.trans (HB2.out.2.below (fun i hi => by rw [hi]; omega) P2.out.2.1.size)) hb3)⟩

theorem tmay_any (t : Int) (a : Option Addr) (cap : Nat) (N : List Nd) (w : World) (hN : Ns w a cap N) (hsm : Small N) (B : Bool) (hB : B = true ↔ ∃ s, Tr N s t) :
    Calls Try.prog 11 #[trv t a cap N] w fun e w' => e = .returned (.bool B) ∧ Below w.heap.size w w' := by
  by_cases h : ∃ s, Part N (List.replicate N.length false) t none none s
  · obtain ⟨s, hs⟩ := h
    exact tmay_yes t a cap N w hN hsm s hs B (hB.trans ⟨fun ⟨s', h'⟩ => by rw [← h'.hg.uniq hs.1]; exact h', fun h' => ⟨s, h'⟩⟩)
  · have : B = false := by
      cases B
      · rfl
      · obtain ⟨s, hs⟩ := hB.1 rfl
        exact absurd ⟨s, tr_part hs⟩ h
    subst this
    exact tmay_no t a cap N w hN hsm (fun s hs => h ⟨s, hs⟩)
end Go.Proofs.Ytijepfabkalcoaa

namespace Go.Proofs.Ytijepfabkalcoaa
open Go.RowKit
set_option linter.all false

def preI (l : List Nat) : List Int := l.map (fun i : Nat => (i : Int))
theorem preI_len (l : List Nat) : (preI l).length = l.length := by simp [preI]
/-- The blocks that are there, but for the row's own. -/
def Tk (W : World) (v : Value) (k : Nat) : Prop := k < W.heap.size ∧ v.ownBlock ≠ some k
/-- The row that began as v0 in W0 is v in W. -/
structure Ws (W0 : World) (v0 : Value) (W : World) (v : Value) (L : List Int) : Prop where
  n : Nums W (Tk W0 v0) v L
  o : Only (fun k => ¬ Tk W0 v0 k) W0 W
def WkIs (W : World) (v : Value) (L : List Int) (e : Ending) (w' : World) : Prop := ∃ ao cap, e = .returned (.slice ao L.length cap) ∧ Ws W v w' (.slice ao L.length cap) L
section
variable {W0 W W' : World} {v0 v v' : Value} {L L' : List Int} {n : Nat}
theorem Ws.start {S : Nat → Prop} (h : Nums W S v L) : Ws W v W v L := ⟨⟨h.row, fun k hk hs => hs.2 hk⟩, Only.refl _ _⟩
theorem Ws.keep (h : Ws W0 v0 W v L) (hb : Below W.heap.size W W') : Ws W0 v0 W' v L := ⟨h.n.below hb, h.o.trans (Only.ofBelow hb) (fun i hi hl => absurd hl (by have := h.o.size; omega))⟩
theorem Ws.drew (h : Ws W0 v0 W v L) : Ws W0 v0 W.drew v L := h.keep ((Below.refl _ _).drew)
theorem Ws.own (h : Ws W0 v0 W v L) (k : Nat) (hk : v.ownBlock = some k) : v0.ownBlock = some k ∨ W0.heap.size ≤ k := by
  have := h.n.av k hk
  unfold Tk at this
  rcases Classical.em (v0.ownBlock = some k) with h' | h'
  · exact .inl h'
  · exact .inr (by
      rcases Nat.lt_or_ge k W0.heap.size with h2 | h2
      · exact absurd ⟨h2, h'⟩ this
      · exact h2)
theorem Ws.ext (h : Ws W0 v0 W v L) (k : Nat) (hk : Tk W0 v0 k) : Tk W v k := ⟨Nat.lt_of_lt_of_le hk.1 h.o.size, fun e => h.n.av k e hk⟩
theorem Ws.step (h : Ws W0 v0 W v L) (k : Ws W v W' v' L') : Ws W0 v0 W' v' L' :=
  ⟨k.n.sub (fun j _ hj => h.ext j hj), h.o.trans k.o (fun i hi _ hs => hi (h.ext i hs))⟩
/-- Blocks below n, none of which is the row's own, are as they were. -/
theorem Ws.below (h : Ws W0 v0 W v L) {w : World} {n : Nat} (hb : Below n w W0) (hn : n ≤ w.heap.size) (hv : ∀ k, v0.ownBlock = some k → n ≤ k) : Below n w W :=
  hb.trans (h.o.below (fun i hi => by
    rcases Nat.lt_or_ge i n with h' | h'
    · exact absurd ⟨Nat.lt_of_lt_of_le h' (Nat.le_trans hn hb.size), fun e => by have := hv i e; omega⟩ hi
    · exact h') (Nat.le_trans hn hb.size))
theorem Ws.cell (h : Ws W0 v0 W v L) {q : Addr} {u : Value} (hc : W0.cell? q = some u) (hv : v0.ownBlock ≠ some q.block) : W.cell? q = some u :=
  h.o.cell hc (fun hh => hh ⟨World.block_lt_of_cell? W0 _ hc, hv⟩)
theorem Ws.lt (h : Ws W0 v0 W v L) (k : Nat) (hk : v.ownBlock = some k) : k < W.heap.size := (h.n.row.lt k hk).2
theorem Ws.low (h : Ws W0 v0 W v L) (hv : ∀ k, v0.ownBlock = some k → n ≤ k) (hn : n ≤ W0.heap.size) : ∀ k, v.ownBlock = some k → n ≤ k := fun k hk => by
  rcases h.own k hk with h' | h'
  · exact hv k h'
  · omega
theorem Ws.nums (h : Ws W0 v0 W v L) (hv : ∀ k, v0.ownBlock = some k → n ≤ k) (hn : n ≤ W0.heap.size) : Nums W (fun k => k < n) v L :=
  ⟨h.n.row, fun k hk hs => by have := h.low hv hn k hk; omega⟩
/-- A number more: behind an append. -/
theorem Ws.more (h : Ws W0 v0 W v L) (o : Obj) {W' : World} (hN : Nums W' (Tk (W.alloc o) v) v' L') (hO : Only (fun k => ¬ Tk (W.alloc o) v k) (W.alloc o) W') : Ws W0 v0 W' v' L' :=
  (h.keep (al1 o)).step ⟨hN, hO⟩
end
theorem nlow {W : World} {n : Nat} {v : Value} {L : List Int} (h : Nums W (fun k => k < n) v L) : ∀ k, v.ownBlock = some k → n ≤ k := fun k hk => by
  have : ¬ k < n := h.av k hk
  omega
/-- The cells of a node's box. -/
def N6 (W : World) (q : Nat) (r : Bool) (k l b : Int) (pa : Option Addr) (pl pc : Nat) (s : Int) : Prop :=
  W.cell? ⟨q, 0, none⟩ = some (.bool r) ∧ W.cell? ⟨q, 1, none⟩ = some (.int .i64 k) ∧ W.cell? ⟨q, 2, none⟩ = some (.int .i64 l) ∧ W.cell? ⟨q, 3, none⟩ = some (.int .i64 b) ∧ W.cell? ⟨q, 4, none⟩ = some (.slice pa pl pc) ∧ W.cell? ⟨q, 5, none⟩ = some (.int .i64 s)
section
variable {W W' W0 : World} {q : Nat} {r : Bool} {k l b : Int} {pa : Option Addr} {pl pc : Nat} {s : Int}
theorem N6.new (W : World) : N6 (W.alloc (.cells #[.bool r, .int .i64 k, .int .i64 l, .int .i64 b, .slice pa pl pc, .int .i64 s] 49)) W.heap.size r k l b pa pl pc s := by
  refine ⟨?_, ?_, ?_, ?_, ?_, ?_⟩ <;> simp
theorem N6.ws {v v' : Value} {L : List Int} (h : N6 W0 q r k l b pa pl pc s) (hw : Ws W0 v W v' L) (hv : v.ownBlock ≠ some q) : N6 W q r k l b pa pl pc s := by
  obtain ⟨c0, c1, c2, c3, c4, c5⟩ := h
  exact ⟨hw.cell c0 hv, hw.cell c1 hv, hw.cell c2 hv, hw.cell c3 hv, hw.cell c4 hv, hw.cell c5 hv⟩
theorem N6.keep (h : N6 W q r k l b pa pl pc s) (hb : Below W.heap.size W W') : N6 W' q r k l b pa pl pc s := by
  obtain ⟨c0, c1, c2, c3, c4, c5⟩ := h
  exact ⟨kc hb c0, kc hb c1, kc hb c2, kc hb c3, kc hb c4, kc hb c5⟩
theorem N6.drew (h : N6 W q r k l b pa pl pc s) : N6 W.drew q r k l b pa pl pc s := h
end

set_option maxRecDepth 100000 in
set_option maxHeartbeats 6400000 in
theorem walk_any {a : Option Addr} {cap : Nat} {N : List Nd} {w0 : World} (hN : Ns w0 a cap N) (hsm : Small N) : ∀ (z : Sh) (t : Int) (lo hi : Option Int), Hangs N z t lo hi → ∀ (W : World) (bo : Option Addr) (bc : Nat) (L : List Int), L.length + z.pre.length ≤ 2000 →
    Below w0.heap.size w0 W → Nums W (fun k => k < w0.heap.size) (.slice bo L.length bc) L →
    Calls Try.prog 46 #[.slice a N.length cap, .int .i64 t, .slice bo L.length bc] W (WkIs W (.slice bo L.length bc) (L ++ preI z.pre)) := by
  intro z
  induction z with
  | lf i =>
    intro t lo hi h W bo bc L hL hb hR
    obtain ⟨rfl, n, hn, hr, -⟩ := h
    have hil := (List.getElem?_eq_some_iff.1 hn).1
    have hl1 := hsm.1
    have hc1 := hN.1
    have hc2 := hN.2.1
    unfold maxLen at hc2
    simp only [Sh.pre, List.length_cons, List.length_nil] at hL
    obtain ⟨b, o, pa, pc, rfl, hna⟩ := hN.2.2 i n hn
    obtain ⟨r, k, l, b', p, s⟩ := n
    dsimp only at hr
    subst hr
    have h0 : (0 : Int) ≤ (i : Int) := by omega
    have h1 : (i : Int) < (N.length : Int) := by omega
    have HS := Lib.hid (Ws.start hR)
    have HV := Lib.hid (nlow hR)
    have HB := Lib.hid hb
    have HA := Lib.hid hna
    have HL := Lib.hid (show L.length + 1 ≤ 100000000000 by omega)
    have HE := Lib.hid (show L.length + [(i : Int)].length = (L ++ [(i : Int)]).length by simp)
    have er : L ++ preI (Sh.lf i).pre = L ++ [(i : Int)] := rfl
    rw [er]
    clear hR hb hna hn hN hsm hL er
    go_enter Try.func46, Try.ntmps46
    go_upto_region 2 with (at_builtin; refine wpList_nums rfl (.tmp 8) (.tmp 10) rfl (Tk (W.alloc (.cells #[.int .i64 (i : Int)] 3)) (.slice bo L.length bc)) _ L [(i : Int)] rfl (Ws.start (HS.out.keep (al1 _)).n).n (fun k hk => hk.1) _ rfl (src_one _) HL.out _ HE.out _ rfl ?_; intro ao cap2 w2 hm2 hc2' hR2 hO2; have H2 := Lib.hid (HS.out.more _ hR2 hO2); clear hR2 hO2; unfold maxLen at hm2)
    have E := Lib.hid (HA.out.keep (H2.out.below HB.out (Nat.le_refl _) HV.out))
    obtain ⟨e0, e1, e2, e3, e4, e5, dp⟩ := E.out
    dsimp only at e0 e1 e2 e3 e4 e5
    clear dp
    go_wp2_with (fail)
    go_ret
    refine ⟨ao, cap2, by simp, ?_⟩
    exact H2.out.keep (al1 (.cells #[.bool false, .int .i64 k, .int .i64 l, .int .i64 b', .slice pa p.length pc, .int .i64 s] 49))
  | rt i zl zr ihl ihr =>
    intro t lo hi h W bo bc L hL hb hR
    obtain ⟨rfl, n, hn, hr, -, hl, hrr⟩ := h
    have hil := (List.getElem?_eq_some_iff.1 hn).1
    have hl1 := hsm.1
    have hc1 := hN.1
    have hc2 := hN.2.1
    unfold maxLen at hc2
    simp only [Sh.pre, List.length_cons, List.length_append] at hL
    obtain ⟨b, o, pa, pc, rfl, hna⟩ := hN.2.2 i n hn
    obtain ⟨r, k, l, b', p, s⟩ := n
    dsimp only at hr hl hrr
    subst hr
    have h0 : (0 : Int) ≤ (i : Int) := by omega
    have h1 : (i : Int) < (N.length : Int) := by omega
    have HS := Lib.hid (Ws.start hR)
    have HV := Lib.hid (nlow hR)
    have HB := Lib.hid hb
    have HA := Lib.hid hna
    have HL := Lib.hid (show L.length + 1 ≤ 100000000000 by omega)
    have cl := fun (W : World) (bo : Option Addr) (bc : Nat) => ihl l lo (some k) hl W bo bc (L ++ [(i : Int)]) (by simp; omega)
    have cr := fun (W : World) (bo : Option Addr) (bc : Nat) => ihr b' (some k) hi hrr W bo bc (L ++ [(i : Int)] ++ preI zl.pre) (by simp [preI]; omega)
    obtain ⟨n1, hn1⟩ : ∃ n1, (L ++ [(i : Int)]).length = n1 := ⟨_, rfl⟩
    have el : L.length + [(i : Int)].length = n1 := by rw [← hn1]; simp
    simp only [hn1] at cl
    have HN1 := Lib.hid hn1
    clear hn1
    have er : L ++ preI (Sh.rt i zl zr).pre = L ++ [(i : Int)] ++ preI zl.pre ++ preI zr.pre := by simp [Sh.pre, preI]
    rw [er]
    have HE := Lib.hid el
    clear hR hb hna hn hN hsm hL ihl ihr hl hrr el er
    generalize L ++ [(i : Int)] ++ preI zl.pre ++ preI zr.pre = L3 at *
    generalize L ++ [(i : Int)] ++ preI zl.pre = L2 at *
    go_enter Try.func46, Try.ntmps46
    go_upto_region 2 with (at_builtin; refine wpList_nums rfl (.tmp 8) (.tmp 10) rfl (Tk (W.alloc (.cells #[.int .i64 (i : Int)] 3)) (.slice bo L.length bc)) _ L [(i : Int)] rfl (Ws.start (HS.out.keep (al1 _)).n).n (fun k hk => hk.1) _ rfl (src_one _) HL.out _ HE.out _ rfl ?_; intro ao cap2 w2 hm2 hc2' hR2 hO2; have H2 := Lib.hid (HS.out.more _ hR2 hO2); clear hR2 hO2; unfold maxLen at hm2)
    have E := Lib.hid (HA.out.keep (H2.out.below HB.out (Nat.le_refl _) HV.out))
    obtain ⟨e0, e1, e2, e3, e4, e5, dp⟩ := E.out
    dsimp only at e0 e1 e2 e3 e4 e5
    clear dp
    generalize L ++ [(i : Int)] = L1 at *
    have K3 := Lib.hid (N6.new (r := true) (k := k) (l := l) (b := b') (pa := pa) (pl := p.length) (pc := pc) (s := s) w2).drew
    have H3 := Lib.hid (H2.out.keep (al1 (.cells #[.bool true, .int .i64 k, .int .i64 l, .int .i64 b', .slice pa p.length pc, .int .i64 s] 49))).drew
    have O3 := Lib.hid (show Value.ownBlock (.slice ao n1 cap2) ≠ some w2.heap.size from fun e => absurd (H2.out.lt _ e) (Nat.lt_irrefl _))
    go_wp2_with (fail)
    have hqb : ∃ qb, w2.heap.size = qb := ⟨_, rfl⟩
    obtain ⟨qb, hqb⟩ := hqb
    rw [hqb] at K3 O3 ⊢
    have HQ := Lib.hid hqb
    clear hqb e0 e1 e2 e3 e4 e5 h0 h1
    go_region_held3 (fun W => W.cell? ⟨qb, 0, none⟩ = some (.bool true) ∧ W.cell? ⟨qb, 1, none⟩ = some (.int .i64 k) ∧ W.cell? ⟨qb, 2, none⟩ = some (.int .i64 l) ∧ W.cell? ⟨qb, 3, none⟩ = some (.int .i64 b') ∧ W.cell? ⟨qb, 4, none⟩ = some (.slice pa p.length pc) ∧ W.cell? ⟨qb, 5, none⟩ = some (.int .i64 s))
      (first | exact K5.out | exact K4.out | exact K3.out | go_keep)
      (first
        | (go_at_call 46; ((with_reducible refine (cl _ _ _ (H3.out.below HB.out (Nat.le_refl _) HV.out) (by have h := H3.out.nums HV.out HB.out.size; first | exact h | (rw [HN1.out]; exact h))).mono ?_); clear cl; rintro e w4 ⟨ao4, cap4, rfl, h4⟩; have H4 := Lib.hid h4; have K4 := Lib.hid (K3.out.ws h4 O3.out); have O4 := Lib.hid (show Value.ownBlock (.slice ao4 L2.length cap4) ≠ some qb from fun e => (H4.out.own _ e).elim O3.out (fun h => absurd h (by have hq := HQ.out; simp at h; omega))); have G4 := Lib.hid (H3.out.step h4); clear h4 K3))
        | (go_at_call 46; ((with_reducible refine (cr _ _ _ (G4.out.below HB.out (Nat.le_refl _) HV.out) (G4.out.nums HV.out HB.out.size)).mono ?_); clear cr; rintro e w5 ⟨ao5, cap5, rfl, h5⟩; have K5 := Lib.hid (K4.out.ws h5 O4.out); have G5 := Lib.hid (G4.out.step h5); clear h5 K4)) | fail)
    all_goals
      go_wp2_with (fail)
      go_ret
      exact ⟨_, _, rfl, G5.out⟩
end Go.Proofs.Ytijepfabkalcoaa

namespace Go.Proofs.Ytijepfabkalcoaa
open Go.RowKit
set_option linter.all false

section
variable {W W' W0 : World} {q : Nat} {t : Int} {a : Option Addr} {nl cap : Nat}
end
end Go.Proofs.Ytijepfabkalcoaa

