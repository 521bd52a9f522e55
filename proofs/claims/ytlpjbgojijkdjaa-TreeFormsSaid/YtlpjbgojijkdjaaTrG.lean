/- slices.Contains over bools, tree.May. No condition: lemmas. -/
import Derived.Test.YtlpjbgojijkdjaaTrF
namespace Go.Proofs.Ytlpjbgojijkdjaa
open Go.RowKit
set_option linter.all false

set_option maxRecDepth 100000 in
set_option maxHeartbeats 6400000 in
theorem ixb_any (g sc : Nat) (sn : List Bool) (w : World) (h : Bs w g sn) (hl : sn.length ≤ 1000000) (hsc : sn.length ≤ sc) (hscm : sc ≤ maxLen) :
    Calls Try.prog 52 #[.slice (some ⟨g, 0, none⟩) sn.length sc, .bool false] w fun e w' => (∃ n : Int, e = .returned (.int .i64 n) ∧ (0 ≤ n ↔ false ∈ sn)) ∧ Below w.heap.size w w' := by
  have HH := Lib.hid h
  clear h
  unfold maxLen at hscm
  go_enter Try.func52, Try.ntmps52
  go_wp2_with (fail)
  go_loopw [8] (fun i wr => ∃ n : Nat, n ≤ sn.length ∧ i = .int .i64 n ∧ (false ∉ sn.take n) ∧ w = wr) (fun i _ => sn.length - (intOf i).toNat)
  case atStart => exact ⟨0, Nat.zero_le _, rfl, by simp, rfl⟩
  case round =>
    obtain ⟨n, hn, rfl, hno, rfl⟩ := hrel
    have HNO := Lib.hid hno
    clear hno
    by_cases hlt : n < sn.length
    · obtain ⟨q, hq⟩ : ∃ q, sn[n]? = some q := ⟨_, List.getElem?_eq_getElem hlt⟩
      have c0 := HH.out.at_ n q hq
      have HQ := Lib.hid hq
      clear hq
      cases q
      · go_wp2_with (fail)
        go_ret
        exact ⟨⟨_, rfl, ⟨fun _ => List.mem_of_getElem? HQ.out, fun _ => by omega⟩⟩, Below.refl _ _⟩
      · go_wp2_with (fail)
        go_roundw
        case rel =>
          refine ⟨n + 1, by omega, by go_num, fun hz => ?_, trivial⟩
          rw [List.take_succ, HQ.out] at hz
          simp at hz
          exact HNO.out hz
        case measure => simp [intOf]; omega
    · obtain rfl : n = sn.length := by omega
      go_wp2_with (fail)
      go_ret
      exact ⟨⟨_, rfl, ⟨fun h => absurd h (by decide), fun h => absurd (by rw [List.take_of_length_le (Nat.le_refl _)]; exact h) HNO.out⟩⟩, Below.refl _ _⟩
theorem ctb_any (g sc : Nat) (sn : List Bool) (w : World) (h : Bs w g sn) (hl : sn.length ≤ 1000000) (hsc : sn.length ≤ sc) (hscm : sc ≤ maxLen) (B : Bool) (hB : B = true ↔ false ∈ sn) :
    Calls Try.prog 41 #[.slice (some ⟨g, 0, none⟩) sn.length sc, .bool false] w fun e w' => e = .returned (.bool B) ∧ Below w.heap.size w w' := by
  have c := ixb_any g sc sn w h hl hsc hscm
  rw [← hB] at c
  clear hB
  go_enter Try.func41, Try.ntmps41
  go_wp2_with (go_at_call 52; ((with_reducible refine c.mono ?_); clear c; rintro e w2 ⟨⟨n, rfl, hn⟩, hb2⟩))
  go_ret
  exact ⟨by cases B <;> simp_all, hb2⟩

theorem infoBool : (Try.prog.info? 4).map (fun i => (i.zero, i.size, i.bytes)) = some (some (.bool false), 1, 1) := by kernel_rfl
/-- So many bools, all false. -/
def mkB (n : Nat) : Array Value := madeCells (Value.bool false).cells n
theorem mkB_run (n : Nat) (h : n ≤ 460) (w : World) : (Instr.makeSlice 39 (.int .i64 (n : Int)) (.int .i64 (n : Int))).run Try.prog w = .ok (.slice (some ⟨w.heap.size, 0, none⟩) n n) (w.alloc (.cells (mkB n) 4)) := by
  obtain ⟨i, hi, hz, hs1, hs2⟩ := info_parts infoBool
  have hr := run_make (P := Try.prog) w 39 4 i _ Try.underlying39 hi hz .i64 .i64 n n (by omega) (Int.le_refl _) (by rw [hs2]; omega) (by omega)
  rw [hs1] at hr
  simpa [mkB] using hr
theorem mkB_bs (w : World) (n : Nat) : Bs (w.alloc (.cells (mkB n) 4)) w.heap.size (List.replicate n false) := by
  refine ⟨by simp, fun j v hj => ?_, fun j => by simp [go_sem]⟩
  rw [World.cell?_alloc_new]
  have : (mkB n).toList = List.replicate n (.bool false) := by
    exact toList_madeCells_one _ _
  rw [← Array.getElem?_toList, this]
  rw [List.getElem?_replicate] at hj ⊢
  split at hj
  · cases hj; rw [if_pos (by assumption)]
  · cases hj
attribute [local go_sem] mkB_run

set_option maxRecDepth 100000 in
set_option maxHeartbeats 6400000 in
theorem tmay_no (t : Int) (a : Option Addr) (cap : Nat) (N : List Nd) (w : World) (hN : Ns w a cap N) (hsm : Small N) (P : ∀ s, ¬ Part N (List.replicate N.length false) t none none s) :
    Calls Try.prog 16 #[trv t a cap N] w fun e w' => e = .returned (.bool false) ∧ Below w.heap.size w w' := by
  unfold trv
  have hl1 := hsm.1
  have hc1 := hN.1
  have hc2 := hN.2.1
  have P1 := Lib.hid (show Bs ((((w.alloc (.cells #[.int .i64 t, .slice a N.length cap] 24)).alloc (.cells (mkB N.length) 4)).alloc (.cells #[.slice a N.length cap, .slice (some ⟨w.heap.size + 1, 0, none⟩) N.length N.length] 68)).drew) (w.heap.size + 1) (List.replicate N.length false) ∧ Below w.heap.size w ((((w.alloc (.cells #[.int .i64 t, .slice a N.length cap] 24)).alloc (.cells (mkB N.length) 4)).alloc (.cells #[.slice a N.length cap, .slice (some ⟨w.heap.size + 1, 0, none⟩) N.length N.length] 68)).drew) ∧ ((((w.alloc (.cells #[.int .i64 t, .slice a N.length cap] 24)).alloc (.cells (mkB N.length) 4)).alloc (.cells #[.slice a N.length cap, .slice (some ⟨w.heap.size + 1, 0, none⟩) N.length N.length] 68)).drew).cell? ⟨w.heap.size + 1 + 1, 1, none⟩ = some (.slice (some ⟨w.heap.size + 1, 0, none⟩) N.length N.length) from by
    refine ⟨?_, (bel1 (bel1 (al1 _) _) _).drew, by simp [go_sem]⟩
    have h := (mkB_bs (w.alloc (.cells #[.int .i64 t, .slice a N.length cap] 24)) N.length).keep (al1 (.cells #[.slice a N.length cap, .slice (some ⟨w.heap.size + 1, 0, none⟩) N.length N.length] 68))
    simp only [World.size_alloc] at h
    exact ⟨h.lt, h.at_, h.fr⟩)
  have P2 := Lib.hid (show Bs ((((w.alloc (.cells #[.int .i64 t, .slice a N.length cap] 24)).alloc (.cells #[.slice a N.length cap, .slice (some ⟨w.heap.size + 1 + 1, 0, none⟩) N.length N.length] 68)).alloc (.cells (mkB N.length) 4)).drew) (w.heap.size + 1 + 1) (List.replicate N.length false) ∧ Below w.heap.size w ((((w.alloc (.cells #[.int .i64 t, .slice a N.length cap] 24)).alloc (.cells #[.slice a N.length cap, .slice (some ⟨w.heap.size + 1 + 1, 0, none⟩) N.length N.length] 68)).alloc (.cells (mkB N.length) 4)).drew) ∧ ((((w.alloc (.cells #[.int .i64 t, .slice a N.length cap] 24)).alloc (.cells #[.slice a N.length cap, .slice (some ⟨w.heap.size + 1 + 1, 0, none⟩) N.length N.length] 68)).alloc (.cells (mkB N.length) 4)).drew).cell? ⟨w.heap.size + 1, 1, none⟩ = some (.slice (some ⟨w.heap.size + 1 + 1, 0, none⟩) N.length N.length) from by
    refine ⟨?_, (bel1 (bel1 (al1 _) _) _).drew, by simp [go_sem]⟩
    have h := (mkB_bs ((w.alloc (.cells #[.int .i64 t, .slice a N.length cap] 24)).alloc (.cells #[.slice a N.length cap, .slice (some ⟨w.heap.size + 1 + 1, 0, none⟩) N.length N.length] 68)) N.length)
    simp only [World.size_alloc] at h
    exact ⟨h.lt, h.at_, h.fr⟩)
  have cf := fun (g : Nat) (W : World) (hB : Bs W g (List.replicate N.length false)) (hb : Below w.heap.size w W) (hg : w.heap.size ≤ g) => from_any (sc := N.length) hN hsm hg (cnt (List.replicate N.length false) + 1) (List.replicate N.length false) t 0 0 false false W (Nat.lt_succ_self _) (List.length_replicate ..) hB hb false (⟨fun h => (by cases h), fun ⟨s, hs⟩ => absurd hs (P s)⟩)
  clear hN hc1 hc2 P
  unfold spv at cf
  go_enter Try.func16, Try.ntmps16
  go_wp2_with (fail)
  go_region
  all_goals go_wp2_with (first
    | (go_at_call 40; ((with_reducible refine (cf _ _ (by first | exact P1.out.1 | exact P2.out.1) (by first | exact P1.out.2.1 | exact P2.out.2.1) (by omega)).mono ?_); rintro e w2 ⟨rfl, sn2, hs2, hB2, hO2, hM2⟩; (first | have k1 := hO2.cell P1.out.2.2 (by show ¬ (_ = _); simp) | have k1 := hO2.cell P2.out.2.2 (by show ¬ (_ = _); simp)); have HB2 := Lib.hid (And.intro hB2 hO2)))
    | fail)
  all_goals go_ret
  all_goals exact ⟨rfl, (by first | exact P1.out.2.1.trans (HB2.out.2.below (fun i hi => by rw [hi]; omega) P1.out.2.1.size) | exact P2.out.2.1.trans (HB2.out.2.below (fun i hi => by rw [hi]; omega) P2.out.2.1.size))⟩

set_option maxRecDepth 100000 in
set_option maxHeartbeats 6400000 in
theorem tmay_yes (t : Int) (a : Option Addr) (cap : Nat) (N : List Nd) (w : World) (hN : Ns w a cap N) (hsm : Small N) (s : Sh) (P : Part N (List.replicate N.length false) t none none s) (B : Bool) (hB : B = true ↔ Tr N s t) :
    Calls Try.prog 16 #[trv t a cap N] w fun e w' => e = .returned (.bool B) ∧ Below w.heap.size w w' := by
  unfold trv
  have hl1 := hsm.1
  have hc1 := hN.1
  have hc2 := hN.2.1
  have P1 := Lib.hid (show Bs ((((w.alloc (.cells #[.int .i64 t, .slice a N.length cap] 24)).alloc (.cells (mkB N.length) 4)).alloc (.cells #[.slice a N.length cap, .slice (some ⟨w.heap.size + 1, 0, none⟩) N.length N.length] 68)).drew) (w.heap.size + 1) (List.replicate N.length false) ∧ Below w.heap.size w ((((w.alloc (.cells #[.int .i64 t, .slice a N.length cap] 24)).alloc (.cells (mkB N.length) 4)).alloc (.cells #[.slice a N.length cap, .slice (some ⟨w.heap.size + 1, 0, none⟩) N.length N.length] 68)).drew) ∧ ((((w.alloc (.cells #[.int .i64 t, .slice a N.length cap] 24)).alloc (.cells (mkB N.length) 4)).alloc (.cells #[.slice a N.length cap, .slice (some ⟨w.heap.size + 1, 0, none⟩) N.length N.length] 68)).drew).cell? ⟨w.heap.size + 1 + 1, 1, none⟩ = some (.slice (some ⟨w.heap.size + 1, 0, none⟩) N.length N.length) from by
    refine ⟨?_, (bel1 (bel1 (al1 _) _) _).drew, by simp [go_sem]⟩
    have h := (mkB_bs (w.alloc (.cells #[.int .i64 t, .slice a N.length cap] 24)) N.length).keep (al1 (.cells #[.slice a N.length cap, .slice (some ⟨w.heap.size + 1, 0, none⟩) N.length N.length] 68))
    simp only [World.size_alloc] at h
    exact ⟨h.lt, h.at_, h.fr⟩)
  have P2 := Lib.hid (show Bs ((((w.alloc (.cells #[.int .i64 t, .slice a N.length cap] 24)).alloc (.cells #[.slice a N.length cap, .slice (some ⟨w.heap.size + 1 + 1, 0, none⟩) N.length N.length] 68)).alloc (.cells (mkB N.length) 4)).drew) (w.heap.size + 1 + 1) (List.replicate N.length false) ∧ Below w.heap.size w ((((w.alloc (.cells #[.int .i64 t, .slice a N.length cap] 24)).alloc (.cells #[.slice a N.length cap, .slice (some ⟨w.heap.size + 1 + 1, 0, none⟩) N.length N.length] 68)).alloc (.cells (mkB N.length) 4)).drew) ∧ ((((w.alloc (.cells #[.int .i64 t, .slice a N.length cap] 24)).alloc (.cells #[.slice a N.length cap, .slice (some ⟨w.heap.size + 1 + 1, 0, none⟩) N.length N.length] 68)).alloc (.cells (mkB N.length) 4)).drew).cell? ⟨w.heap.size + 1, 1, none⟩ = some (.slice (some ⟨w.heap.size + 1 + 1, 0, none⟩) N.length N.length) from by
    refine ⟨?_, (bel1 (bel1 (al1 _) _) _).drew, by simp [go_sem]⟩
    have h := (mkB_bs ((w.alloc (.cells #[.int .i64 t, .slice a N.length cap] 24)).alloc (.cells #[.slice a N.length cap, .slice (some ⟨w.heap.size + 1 + 1, 0, none⟩) N.length N.length] 68)) N.length)
    simp only [World.size_alloc] at h
    exact ⟨h.lt, h.at_, h.fr⟩)
  have cf := fun (g : Nat) (W : World) (hB : Bs W g (List.replicate N.length false)) (hb : Below w.heap.size w W) (hg : w.heap.size ≤ g) => from_any (sc := N.length) hN hsm hg (cnt (List.replicate N.length false) + 1) (List.replicate N.length false) t 0 0 false false W (Nat.lt_succ_self _) (List.length_replicate ..) hB hb true (⟨fun _ => ⟨s, P⟩, fun _ => rfl⟩)
  have hB' := Lib.hid (hB.trans (part_seen_all (by omega) P))
  have HP := Lib.hid P
  have cc := fun (g : Nat) (W : World) (hBs : Bs W g (mark (List.replicate N.length false) s.pre)) => ctb_any g N.length (mark (List.replicate N.length false) s.pre) W hBs (by rw [mark_len, List.length_replicate]; omega) (by rw [mark_len, List.length_replicate]; omega) (by unfold maxLen; omega) (!B) (by
    have h := hB'.out
    cases B
    · simp at h ⊢; exact h
    · simp at h ⊢; exact h)
  rw [mark_len, List.length_replicate] at cc
  clear hB
  clear hN hc1 hc2 P
  unfold spv at cf
  go_enter Try.func16, Try.ntmps16
  go_wp2_with (fail)
  go_region
  all_goals go_wp2_with (first
    | (go_at_call 40; ((with_reducible refine (cf _ _ (by first | exact P1.out.1 | exact P2.out.1) (by first | exact P1.out.2.1 | exact P2.out.2.1) (by omega)).mono ?_); rintro e w2 ⟨rfl, sn2, hs2, hB2, hO2, hM2⟩; (first | have k1 := hO2.cell P1.out.2.2 (by show ¬ (_ = _); simp) | have k1 := hO2.cell P2.out.2.2 (by show ¬ (_ = _); simp)); have HB2 := Lib.hid (And.intro hB2 hO2); obtain rfl := hM2 s HP.out))
    | (go_at_call 41; ((with_reducible refine (cc _ _ HB2.out.1).mono ?_); rintro e w3 ⟨rfl, hb3⟩)))
  all_goals go_ret
  all_goals exact ⟨by simp, (by first | exact bel2 (P1.out.2.1.trans (HB2.out.2.below (fun i hi => by rw [hi]; omega) P1.out.2.1.size)) hb3 | exact bel2 (P2.out.2.1.trans (HB2.out.2.below (fun i hi => by rw [hi]; omega) P2.out.2.1.size)) hb3)⟩

theorem tmay_any (t : Int) (a : Option Addr) (cap : Nat) (N : List Nd) (w : World) (hN : Ns w a cap N) (hsm : Small N) (B : Bool) (hB : B = true ↔ ∃ s, Tr N s t) :
    Calls Try.prog 16 #[trv t a cap N] w fun e w' => e = .returned (.bool B) ∧ Below w.heap.size w w' := by
  by_cases h : ∃ s, Part N (List.replicate N.length false) t none none s
  · obtain ⟨s, hs⟩ := h
    exact tmay_yes t a cap N w hN hsm s hs B (hB.trans ⟨fun ⟨s', h'⟩ => by rw [← h'.hg.uniq hs.1]; exact h', fun h' => ⟨s, h'⟩⟩)
  · have : B = false := by
      cases B
      · rfl
      · obtain ⟨s, hs⟩ := hB.1 rfl
        exact absurd ⟨s, tr_part hs⟩ h
    subst this
    exact tmay_no t a cap N w hN hsm (fun s hs => h ⟨s, hs⟩)
#print axioms tmay_any
end Go.Proofs.Ytlpjbgojijkdjaa
