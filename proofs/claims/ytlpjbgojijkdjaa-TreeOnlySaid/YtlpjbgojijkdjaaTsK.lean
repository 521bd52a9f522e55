/- osierref1.With of up to 3000 pairs; which leaf may hold a key. No condition: lemmas. -/
import Derived.Test.YtlpjbgojijkdjaaTsJ
namespace Go.Proofs.Ytlpjbgojijkdjaa
open Go.RowKit
set_option linter.all false

set_option maxRecDepth 100000 in
set_option maxHeartbeats 6400000 in
theorem with_big (a : Option Addr) (cap : Nat) (l : List Pr) (k v : Int) (w : World) (h : Prs w a cap l) (hl : l.length ≤ 3000) :
    Calls Try.prog 31 #[.slice a l.length cap, .agg #[.int .i64 k, .int .i64 v]] w (fun e w' => WithIs w (withL l k v) e w' ∧ (withL l k v).length ≤ l.length + 1) := by
  have HH := Lib.hid h
  have hc1 := h.1
  have hc2 := h.2.1
  clear h
  unfold maxLen at hc2
  have b0 : Below w.heap.size w (w.alloc (.cells #[.int .i64 k, .int .i64 v] 48)) := (Below.refl _ _).alloc (Nat.le_refl _) _
  go_enter Try.func31, Try.ntmps31
  go_wp2_with (fail)
  go_loopw [5, 6, 11] (fun out done i wr => ∃ (n : Nat) (d : Bool) (ao : Option Addr) (cp m : Nat) (l' : List Pr), n ≤ l.length ∧ i = .int .i64 n ∧ done = .bool d ∧ out = .slice ao m cp ∧ m = l'.length ∧ m ≤ n + d.toNat ∧ wAcc k v l n = (l', d) ∧ WLoop w k v out l' wr) (fun _ _ i _ => l.length - (intOf i).toNat)
  case atStart => exact ⟨0, false, none, 0, 0, [], Nat.zero_le _, rfl, rfl, rfl, rfl, Nat.le_refl _, rfl, ⟨PRow.nil _ _, by simp, by simp, b0⟩⟩
  case round =>
    obtain ⟨n, d, ao, cp, m, l', hn, rfl, rfl, rfl, rfl, hln, hacc, hW⟩ := hrel
    have HA := Lib.hid hacc
    clear hacc
    have hlw : w.heap.size < wr.heap.size := World.block_lt_of_cell? wr _ hW.b0
    obtain ⟨_, _, hcp1, hcp2⟩ := hW.row.form
    have hdn : d.toNat ≤ 1 := by cases d <;> simp
    by_cases hlt : n < l.length
    · obtain ⟨q, hq⟩ : ∃ q, l[n]? = some q := ⟨_, List.getElem?_eq_getElem hlt⟩
      obtain ⟨b, o, rfl, c0, c1⟩ := (HH.out.below hW.b).2.2.1 n q hq
      obtain ⟨x0, x1⟩ := q
      dsimp only at c0 c1
      have HQ0 : Hid (l.getD n (0, 0) = (x0, x1)) := Lib.hid (by simp [List.getD, hq])
      clear hq
      have a0 := cell_alloc hW.b0 (.cells #[.int .i64 x0, .int .i64 x1] 48)
      have a1 := cell_alloc hW.b1 (.cells #[.int .i64 x0, .int .i64 x1] 48)
      have e0 : (wr.alloc (.cells #[.int .i64 x0, .int .i64 x1] 48)).cell? ⟨wr.heap.size, 0, none⟩ = some (.int .i64 x0) := by simp
      have e1 : (wr.alloc (.cells #[.int .i64 x0, .int .i64 x1] 48)).cell? ⟨wr.heap.size, 1, none⟩ = some (.int .i64 x1) := by simp
      have HP := Lib.hid (hW.row.more (.cells #[.int .i64 x0, .int .i64 x1] 48))
      have hlen : l'.length ≤ 3001 := by omega
      have HS : Hid (∀ j, (j ≤ w.heap.size ∨ j = wr.heap.size) → j < (wr.alloc (.cells #[.int .i64 x0, .int .i64 x1] 48)).heap.size) := Lib.hid (fun j hj => by simp; omega)
      have HL := Lib.hid (hW.past (.cells #[.int .i64 x0, .int .i64 x1] 48))
      clear hW
      cases d
      · simp only [Bool.toNat_false] at hdn
        by_cases hge : k ≤ x0
        · have HG := Lib.hid hge
          by_cases hne : x0 = k
          · have hne' : (x0 != k) = false := by simp [hne]
            have HN := Lib.hid hne'
            clear hne
            go_wp2_with (first | (at_builtin; refine wpList_push rfl (.tmp 24) (.tmp 26) rfl (fun j => j ≤ w.heap.size ∨ j = wr.heap.size) _ l' k v rfl HP.out HS.out _ rfl (by simp) (by omega) ?_; intro ao1 cp1 w1 hm1 hc1 hR1 hk1 hO1; have HQ := Lib.hid (HL.out.push hR1 hk1 hO1); have HR1 := Lib.hid hR1; have y0 := hk1 ⟨wr.heap.size, 0, none⟩ _ (.inr rfl) e0; have y1 := hk1 ⟨wr.heap.size, 1, none⟩ _ (.inr rfl) e1; have a0 := HQ.out.b0; have a1 := HQ.out.b1; have hs1 := hO1.size; clear hR1 hk1 hO1; unfold maxLen at hm1))
            go_roundw
            case rel => exact ⟨n + 1, true, _, _, _, (l' ++ [(k, v)]), by omega, by go_num, rfl, rfl, by simp, by simp at hln ⊢; omega, (wAcc_next HA.out HQ0.out).trans (wS_ge_eq HG.out HN.out), HQ.out⟩
            case measure => simp [intOf]; omega
          · have hne' : (x0 != k) = true := by simp [hne]
            have HN := Lib.hid hne'
            clear hne
            go_wp2_with (first | (at_builtin; refine wpList_push rfl (.tmp 24) (.tmp 26) rfl (fun j => j ≤ w.heap.size ∨ j = wr.heap.size) _ l' k v rfl HP.out HS.out _ rfl (by simp) (by omega) ?_; intro ao1 cp1 w1 hm1 hc1 hR1 hk1 hO1; have HQ := Lib.hid (HL.out.push hR1 hk1 hO1); have HR1 := Lib.hid hR1; have y0 := hk1 ⟨wr.heap.size, 0, none⟩ _ (.inr rfl) e0; have y1 := hk1 ⟨wr.heap.size, 1, none⟩ _ (.inr rfl) e1; have a0 := HQ.out.b0; have a1 := HQ.out.b1; have hs1 := hO1.size; clear hR1 hk1 hO1; unfold maxLen at hm1) | (at_builtin; refine wpList_push rfl (.tmp 33) (.tmp 35) rfl (fun j => j ≤ w.heap.size ∨ j = wr.heap.size) _ (l' ++ [(k, v)]) x0 x1 rfl HR1.out (fun j hj => by have := HS.out j hj; omega) _ rfl (by simp) (by simp; omega) ?_; intro ao2 cp2 w2 hm2 hc2 hR2 hk2 hO2; have HF := Lib.hid (HQ.out.push hR2 hk2 hO2); clear hR2 hk2 hO2; unfold maxLen at hm2))
            go_roundw
            case rel => exact ⟨n + 1, true, _, _, _, ((l' ++ [(k, v)]) ++ [(x0, x1)]), by omega, by go_num, rfl, rfl, by simp, by simp at hln ⊢; omega, (wAcc_next HA.out HQ0.out).trans (wS_ge_ne HG.out HN.out), by have := HF.out; rw [List.length_append] at this; exact this⟩
            case measure => simp [intOf]; omega
        · have hge' : x0 < k := by omega
          have HG := Lib.hid hge'
          have hne' : (x0 != k) = true := by simp; omega
          clear hge
          go_wp2_with (first | (at_builtin; refine wpList_push rfl (.tmp 33) (.tmp 35) rfl (fun j => j ≤ w.heap.size ∨ j = wr.heap.size) _ l' x0 x1 rfl HP.out HS.out _ rfl (by simp) (by omega) ?_; intro ao2 cp2 w2 hm2 hc2 hR2 hk2 hO2; have HF := Lib.hid (HL.out.push hR2 hk2 hO2); clear hR2 hk2 hO2; unfold maxLen at hm2))
          go_roundw
          case rel => exact ⟨n + 1, false, _, _, _, (l' ++ [(x0, x1)]), by omega, by go_num, rfl, rfl, by simp, by simp at hln ⊢; omega, (wAcc_next HA.out HQ0.out).trans (wS_lt HG.out), HF.out⟩
          case measure => simp [intOf]; omega
      · by_cases hne : x0 = k
        · have hne' : (x0 != k) = false := by simp [hne]
          have HN := Lib.hid hne'
          clear hne
          go_wp2_with (fail)
          go_roundw
          case rel => exact ⟨n + 1, true, _, _, _, l', by omega, by go_num, rfl, rfl, rfl, by simp at hln ⊢; omega, (wAcc_next HA.out HQ0.out).trans (wS_t_eq HN.out), HL.out⟩
          case measure => simp [intOf]; omega
        · have hne' : (x0 != k) = true := by simp [hne]
          have HN := Lib.hid hne'
          clear hne
          go_wp2_with (first | (at_builtin; refine wpList_push rfl (.tmp 33) (.tmp 35) rfl (fun j => j ≤ w.heap.size ∨ j = wr.heap.size) _ l' x0 x1 rfl HP.out HS.out _ rfl (by simp) (by omega) ?_; intro ao2 cp2 w2 hm2 hc2 hR2 hk2 hO2; have HF := Lib.hid (HL.out.push hR2 hk2 hO2); clear hR2 hk2 hO2; unfold maxLen at hm2))
          go_roundw
          case rel => exact ⟨n + 1, true, _, _, _, (l' ++ [(x0, x1)]), by omega, by go_num, rfl, rfl, by simp, by simp at hln ⊢; omega, (wAcc_next HA.out HQ0.out).trans (wS_t_ne HN.out), HF.out⟩
          case measure => simp [intOf]; omega
    · obtain rfl : n = l.length := by omega
      have HL := Lib.hid hW
      have b0 := hW.b0
      have b1 := hW.b1
      have HS : Hid (∀ j, (j ≤ w.heap.size ∨ j = w.heap.size) → j < wr.heap.size) := Lib.hid (fun j hj => by omega)
      have HP : Hid (PRow wr (fun j => j ≤ w.heap.size ∨ j = w.heap.size) (.slice ao l'.length cp) l') := Lib.hid (hW.row.sub (fun j _ hj => by omega))
      clear hW
      cases d
      · go_wp2_with (at_builtin; refine wpList_push rfl (.tmp 40) (.tmp 42) rfl (fun j => j ≤ w.heap.size ∨ j = w.heap.size) _ l' k v rfl HP.out HS.out _ rfl (by simp) (by omega) ?_; intro ao1 cp1 w1 hm1 hc1 hR1 hk1 hO1; have HQ := Lib.hid (HL.out.push hR1 hk1 hO1); clear hR1 hk1 hO1; unfold maxLen at hm1)
        go_ret
        have eL : withL l k v = l' ++ [(k, v)] := by unfold withL; rw [HA.out]; rfl
        rw [eL]
        exact ⟨⟨ao1, cp1, by simp, by have h9 := HQ.out.row.sub (S' := fun j => j < w.heap.size) (fun j _ hj => Nat.le_of_lt hj); simpa using h9, HQ.out.b⟩, by simp at hln ⊢; omega⟩
      · go_wp2_with (fail)
        go_ret
        have eL : withL l k v = l' := by unfold withL; rw [HA.out]; rfl
        rw [eL]
        exact ⟨⟨_, _, rfl, HL.out.row.sub (fun j _ hj => Nat.le_of_lt hj), HL.out.b⟩, by simp at hln; omega⟩

/-- With a leaf anew it is a tree just if the pairs may stand there. -/
theorem tr_set {N : List Nd} {s : Sh} {t : Int} (h : Tr N s t) {i : Nat} {l : List Pr} {st : Int} (hi : i ∈ s.lvs) :
    (∃ s', Tr (N.set i (lfn l st)) s' t) ↔ (-1000000 ≤ st ∧ st ≤ 1000000 ∧ Srt l ∧ ∀ q ∈ l, InLf N s none none i q.1) := by
  have hil : i < N.length := h.hg.lt i (lvs_pre s i hi)
  have hs := hangs_set (l := l) (st := st) hil h.hg h.nd hi
  constructor
  · rintro ⟨s', h'⟩
    have hr : ∀ n, N[i]? = some n → n.r = false := fun n hn => by
      have := hi
      rw [lvs_filter h.hg, List.mem_filter, nd_of hn] at this
      simpa using this.2
    have e : s = s' := Hangs.one (N := N) (M := N.set i (lfn l st)) (fun j n m hn hm => by
      by_cases e : i = j
      · subst e
        rw [List.getElem?_set_self hil] at hm
        cases hm
        exact ⟨hr n hn, fun h => by rw [hr n hn] at h; cases h⟩
      · rw [List.getElem?_set_ne e, hn] at hm
        cases hm
        exact ⟨rfl, fun _ => ⟨rfl, rfl⟩⟩) h.hg h'.hg
    subst e
    exact hs.1 h'.hg
  · intro hh
    exact ⟨s, ⟨by rw [List.length_set]; exact h.le, hs.2 hh, h.nd, by rw [List.length_set]; exact h.all⟩⟩
/-- A pair more may stand in its own leaf alone. -/
theorem tr_with {N : List Nd} {s : Sh} {t : Int} (h : Tr N s t) {i : Nat} (hi : i ∈ s.lvs) (k v : Int) :
    (∃ s', Tr (N.set i (lfn (withL (nd N i).p k v) 0)) s' t) ↔ i = (dn N k s).i := by
  have hil : i < N.length := h.hg.lt i (lvs_pre s i hi)
  have hsrt : Srt (nd N i).p := by
    obtain ⟨n, lo, hh, hn, hl, _⟩ := hangs_leaf h.hg i (lvs_pre s i hi)
    have hr : n.r = false := by
      have := hi
      rw [lvs_filter h.hg, List.mem_filter, nd_of hn] at this
      simpa using this.2
    rw [nd_of hn]
    exact (hl hr).2.2.2.2.2.1
  rw [tr_set h hi, ← inLf_dn h.hg (inS_any k)]
  constructor
  · rintro ⟨_, _, _, hq⟩
    exact hq (k, v) (by rw [withL_srt _ _ _ hsrt]; simp)
  · intro hk
    refine ⟨by decide, by decide, withL_is_srt _ _ _ hsrt, fun q hq => ?_⟩
    rcases withL_mem hsrt hq with rfl | hq
    · exact hk
    · exact inLf_own h.hg i hi q hq
theorem setO_with {N : List Nd} {s : Sh} {t : Int} (h : Tr N s t) {i : Nat} (hi : i ∈ s.lvs) (k v : Int) (x : Bool) (hx : ((i : Int) == ((dn N k s).i : Int)) = x) :
    ∃ r Q, SetO N t i (withL (nd N i).p k v) 0 r Q x := by
  have hil : i < N.length := h.hg.lt i (lvs_pre s i hi)
  have hr : (nd N i).r = false := by
    have := hi
    rw [lvs_filter h.hg, List.mem_filter] at this
    simpa using this.2
  have ht := tr_with h hi k v
  cases x
  · refine ⟨0, [], .inr ⟨rfl, rfl, rfl, ?_⟩⟩
    rintro ⟨_, j, n, e, hn, _, hs⟩
    have e2 : i = j := by omega
    subst e2
    have := ht.1 hs
    rw [beq_eq_false_iff_ne] at hx
    omega
  · have e : i = (dn N k s).i := by have := eq_of_beq hx; omega
    exact ⟨t, _, .inl ⟨rfl, rfl, ⟨s, h⟩, i, nd N i, rfl, nd_get hil, hr, rfl, ht.2 e⟩⟩
/-- Each pair is in the leaf of its key. -/
theorem dn_own {N : List Nd} {s : Sh} {t : Int} (h : Tr N s t) {i : Nat} (hi : i ∈ s.lvs) {q : Pr} (hq : q ∈ (nd N i).p) : (dn N q.1 s).i = i :=
  ((inLf_dn h.hg (inS_any q.1)).1 (inLf_own h.hg i hi q hq)).symm
#print axioms setO_with
#print axioms with_big
end Go.Proofs.Ytlpjbgojijkdjaa
