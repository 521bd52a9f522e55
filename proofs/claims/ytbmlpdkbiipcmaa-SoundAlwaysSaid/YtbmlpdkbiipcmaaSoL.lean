/- osierref1.With, Without: the row is a new one; the ways of a treap beside a row of pairs and an operation of one's own. -/
import Derived.Test.YtbmlpdkbiipcmaaCtW
import Derived.Test.YtbmlpdkbiipcmaaPaG
import Derived.Test.YtbmlpdkbiipcmaaJnT
import Derived.Test.YtbmlpdkbiipcmaaSoA
import Derived.Test.YtbmlpdkbiipcmaaNSays
import Derived.Test.YtbmlpdkbiipcmaaNForm
namespace Go.Proofs.Ytbmlpdkbiipcmaa
open Go.RowKit
set_option linter.all false

def WithFr (w : World) (L : List Pr) (e : Ending) (w' : World) : Prop :=
  ∃ ao cp, e = .returned (.slice ao L.length cp) ∧ Prs w' ao cp L ∧ Below w.heap.size w w' ∧ ∀ b o, ao = some ⟨b, o, none⟩ → w.heap.size ≤ b ∧ b < w'.heap.size
theorem prow_fresh {W : World} {S : Nat → Prop} {ao : Option Addr} {n cap B : Nat} {l : List Pr} (h : PRow W S (.slice ao n cap) l) (hS : ∀ k, k < B → S k) : ∀ b o, ao = some ⟨b, o, none⟩ → B ≤ b ∧ b < W.heap.size := by
  rintro b o rfl
  rcases h.row.2 with ⟨e, _⟩ | ⟨g, cap', cur, e, _, hg, _⟩
  · cases e
  · cases e
    refine ⟨?_, (Array.getElem?_eq_some_iff.1 hg).1⟩
    have := h.av _ rfl
    exact Nat.le_of_not_lt (fun hh => this (hS _ hh))

set_option maxRecDepth 100000 in
set_option maxHeartbeats 6400000 in
theorem with_fr (a : Option Addr) (cap : Nat) (l : List Pr) (k v : Int) (w : World) (h : Prs w a cap l) (hl : l.length ≤ 1000) :
    Calls Try.prog 21 #[.slice a l.length cap, .agg #[.int .i64 k, .int .i64 v]] w (fun e w' => WithFr w (withL l k v) e w' ∧ (withL l k v).length ≤ l.length + 1) := by
  have HH := Lib.hid h
  have hc1 := h.1
  have hc2 := h.2.1
  clear h
  unfold maxLen at hc2
  have b0 : Below w.heap.size w (w.alloc (.cells #[.int .i64 k, .int .i64 v] 24)) := (Below.refl _ _).alloc (Nat.le_refl _) _
  go_enter Try.func21, Try.ntmps21
  go_wp2_with (fail)
  go_loopw [5, 6, 11] (fun out done i wr => ∃ (n : Nat) (d : Bool) (ao : Option Addr) (cp m : Nat) (l' : List Pr), n ≤ l.length ∧ i = .int .i64 n ∧ done = .bool d ∧ out = .slice ao m cp ∧ m = l'.length ∧ m ≤ n + d.toNat ∧ wAcc k v l n = (l', d) ∧ WLoop w k v out l' wr) (fun _ _ i _ => l.length - (intOf i).toNat)
  case atStart => exact ⟨0, false, none, 0, 0, [], Nat.zero_le _, rfl, rfl, rfl, rfl, Nat.le_refl _, rfl, ⟨PRow.nil _ _, by simp, by simp, b0⟩⟩
  case round =>
    obtain ⟨n, d, ao, cp, m, l', hn, rfl, rfl, rfl, rfl, hln, hacc, hW⟩ := hrel
    have HA := Lib.hid hacc
    clear hacc
    have hlw : w.heap.size < wr.heap.size := World.block_lt_of_cell? wr _ hW.b0
    obtain ⟨_, _, hcp1, hcp2⟩ := hW.row.form
    have hdn : d.toNat ≤ 1 := by cases d <;> simp
    by_cases hlt : n < l.length
    · obtain ⟨q, hq⟩ : ∃ q, l[n]? = some q := ⟨_, List.getElem?_eq_getElem hlt⟩
      obtain ⟨b, o, rfl, c0, c1⟩ := (HH.out.below hW.b).2.2 n q hq
      obtain ⟨x0, x1⟩ := q
      dsimp only at c0 c1
      have HQ0 : Hid (l.getD n (0, 0) = (x0, x1)) := Lib.hid (by simp [List.getD, hq])
      clear hq
      have a0 := cell_alloc hW.b0 (.cells #[.int .i64 x0, .int .i64 x1] 24)
      have a1 := cell_alloc hW.b1 (.cells #[.int .i64 x0, .int .i64 x1] 24)
      have e0 : (wr.alloc (.cells #[.int .i64 x0, .int .i64 x1] 24)).cell? ⟨wr.heap.size, 0, none⟩ = some (.int .i64 x0) := by simp
      have e1 : (wr.alloc (.cells #[.int .i64 x0, .int .i64 x1] 24)).cell? ⟨wr.heap.size, 1, none⟩ = some (.int .i64 x1) := by simp
      have HP := Lib.hid (hW.row.more (.cells #[.int .i64 x0, .int .i64 x1] 24))
      have hlen : l'.length ≤ 1001 := by omega
      have HS : Hid (∀ j, (j ≤ w.heap.size ∨ j = wr.heap.size) → j < (wr.alloc (.cells #[.int .i64 x0, .int .i64 x1] 24)).heap.size) := Lib.hid (fun j hj => by simp; omega)
      have HL := Lib.hid (hW.past (.cells #[.int .i64 x0, .int .i64 x1] 24))
      clear hW
      cases d
      · simp only [Bool.toNat_false] at hdn
        by_cases hge : k ≤ x0
        · have HG := Lib.hid hge
          by_cases hne : x0 = k
          · have hne' : (x0 != k) = false := by simp [hne]
            have HN := Lib.hid hne'
            clear hne
            go_wp2_with (first | (at_builtin; refine wpList_push rfl (.tmp 24) (.tmp 26) rfl (fun j => j ≤ w.heap.size ∨ j = wr.heap.size) _ l' k v rfl HP.out HS.out _ rfl (by simp) (by omega) ?_; intro ao1 cp1 w1 hm1 hc1 hR1 hk1 hO1; have HQ := Lib.hid (HL.out.push hR1 hk1 hO1); have HR1 := Lib.hid hR1; have y0 := hk1 ⟨wr.heap.size, 0, none⟩ _ (.inr rfl) e0; have y1 := hk1 ⟨wr.heap.size, 1, none⟩ _ (.inr rfl) e1; have a0 := HQ.out.b0; have a1 := HQ.out.b1; have hs1 := hO1.size; clear hR1 hk1 hO1; unfold maxLen at hm1))
            go_roundw
            case rel => exact ⟨n + 1, true, _, _, _, (l' ++ [(k, v)]), by omega, by go_num, rfl, rfl, by simp, by simp at hln ⊢; omega, (wAcc_next HA.out HQ0.out).trans (wS_ge_eq HG.out HN.out), HQ.out⟩
            case measure => simp [intOf]; omega
          · have hne' : (x0 != k) = true := by simp [hne]
            have HN := Lib.hid hne'
            clear hne
            go_wp2_with (first | (at_builtin; refine wpList_push rfl (.tmp 24) (.tmp 26) rfl (fun j => j ≤ w.heap.size ∨ j = wr.heap.size) _ l' k v rfl HP.out HS.out _ rfl (by simp) (by omega) ?_; intro ao1 cp1 w1 hm1 hc1 hR1 hk1 hO1; have HQ := Lib.hid (HL.out.push hR1 hk1 hO1); have HR1 := Lib.hid hR1; have y0 := hk1 ⟨wr.heap.size, 0, none⟩ _ (.inr rfl) e0; have y1 := hk1 ⟨wr.heap.size, 1, none⟩ _ (.inr rfl) e1; have a0 := HQ.out.b0; have a1 := HQ.out.b1; have hs1 := hO1.size; clear hR1 hk1 hO1; unfold maxLen at hm1) | (at_builtin; refine wpList_push rfl (.tmp 33) (.tmp 35) rfl (fun j => j ≤ w.heap.size ∨ j = wr.heap.size) _ (l' ++ [(k, v)]) x0 x1 rfl HR1.out (fun j hj => by have := HS.out j hj; omega) _ rfl (by simp) (by simp; omega) ?_; intro ao2 cp2 w2 hm2 hc2 hR2 hk2 hO2; have HF := Lib.hid (HQ.out.push hR2 hk2 hO2); clear hR2 hk2 hO2; unfold maxLen at hm2))
            go_roundw
            case rel => exact ⟨n + 1, true, _, _, _, ((l' ++ [(k, v)]) ++ [(x0, x1)]), by omega, by go_num, rfl, rfl, by simp, by simp at hln ⊢; omega, (wAcc_next HA.out HQ0.out).trans (wS_ge_ne HG.out HN.out), by have := HF.out; rw [List.length_append] at this; exact this⟩
            case measure => simp [intOf]; omega
        · have hge' : x0 < k := by omega
          have HG := Lib.hid hge'
          have hne' : (x0 != k) = true := by simp; omega
          clear hge
          go_wp2_with (first | (at_builtin; refine wpList_push rfl (.tmp 33) (.tmp 35) rfl (fun j => j ≤ w.heap.size ∨ j = wr.heap.size) _ l' x0 x1 rfl HP.out HS.out _ rfl (by simp) (by omega) ?_; intro ao2 cp2 w2 hm2 hc2 hR2 hk2 hO2; have HF := Lib.hid (HL.out.push hR2 hk2 hO2); clear hR2 hk2 hO2; unfold maxLen at hm2))
          go_roundw
          case rel => exact ⟨n + 1, false, _, _, _, (l' ++ [(x0, x1)]), by omega, by go_num, rfl, rfl, by simp, by simp at hln ⊢; omega, (wAcc_next HA.out HQ0.out).trans (wS_lt HG.out), HF.out⟩
          case measure => simp [intOf]; omega
      · by_cases hne : x0 = k
        · have hne' : (x0 != k) = false := by simp [hne]
          have HN := Lib.hid hne'
          clear hne
          go_wp2_with (fail)
          go_roundw
          case rel => exact ⟨n + 1, true, _, _, _, l', by omega, by go_num, rfl, rfl, rfl, by simp at hln ⊢; omega, (wAcc_next HA.out HQ0.out).trans (wS_t_eq HN.out), HL.out⟩
          case measure => simp [intOf]; omega
        · have hne' : (x0 != k) = true := by simp [hne]
          have HN := Lib.hid hne'
          clear hne
          go_wp2_with (first | (at_builtin; refine wpList_push rfl (.tmp 33) (.tmp 35) rfl (fun j => j ≤ w.heap.size ∨ j = wr.heap.size) _ l' x0 x1 rfl HP.out HS.out _ rfl (by simp) (by omega) ?_; intro ao2 cp2 w2 hm2 hc2 hR2 hk2 hO2; have HF := Lib.hid (HL.out.push hR2 hk2 hO2); clear hR2 hk2 hO2; unfold maxLen at hm2))
          go_roundw
          case rel => exact ⟨n + 1, true, _, _, _, (l' ++ [(x0, x1)]), by omega, by go_num, rfl, rfl, by simp, by simp at hln ⊢; omega, (wAcc_next HA.out HQ0.out).trans (wS_t_ne HN.out), HF.out⟩
          case measure => simp [intOf]; omega
    · obtain rfl : n = l.length := by omega
      have HL := Lib.hid hW
      have b0 := hW.b0
      have b1 := hW.b1
      have HS : Hid (∀ j, (j ≤ w.heap.size ∨ j = w.heap.size) → j < wr.heap.size) := Lib.hid (fun j hj => by omega)
      have HP : Hid (PRow wr (fun j => j ≤ w.heap.size ∨ j = w.heap.size) (.slice ao l'.length cp) l') := Lib.hid (hW.row.sub (fun j _ hj => by omega))
      clear hW
      cases d
      · go_wp2_with (at_builtin; refine wpList_push rfl (.tmp 40) (.tmp 42) rfl (fun j => j ≤ w.heap.size ∨ j = w.heap.size) _ l' k v rfl HP.out HS.out _ rfl (by simp) (by omega) ?_; intro ao1 cp1 w1 hm1 hc1 hR1 hk1 hO1; have HQ := Lib.hid (HL.out.push hR1 hk1 hO1); clear hR1 hk1 hO1; unfold maxLen at hm1)
        go_ret
        have eL : withL l k v = l' ++ [(k, v)] := by unfold withL; rw [HA.out]; rfl
        rw [eL]
        exact ⟨⟨_, _, by simp, HQ.out.row.prs (by simp), HQ.out.b, prow_fresh HQ.out.row (fun k hk => Nat.le_of_lt hk)⟩, by simp at hln ⊢; omega⟩
      · go_wp2_with (fail)
        go_ret
        have eL : withL l k v = l' := by unfold withL; rw [HA.out]; rfl
        rw [eL]
        exact ⟨⟨_, _, rfl, HL.out.row.prs rfl, HL.out.b, prow_fresh HL.out.row (fun k hk => Nat.le_of_lt hk)⟩, by simp at hln; omega⟩

set_option maxRecDepth 100000 in
set_option maxHeartbeats 6400000 in
theorem without_fr (a : Option Addr) (cap : Nat) (l : List Pr) (k : Int) (w : World) (h : Prs w a cap l) (hl : l.length ≤ 1000) :
    Calls Try.prog 25 #[.slice a l.length cap, .int .i64 k] w (WithFr w (cutL l k)) := by
  have HH := Lib.hid h
  have hc1 := h.1
  have hc2 := h.2.1
  clear h
  unfold maxLen at hc2
  go_enter Try.func25, Try.ntmps25
  go_wp2_with (fail)
  go_loopw [5, 10] (fun out i wr => ∃ (n : Nat) (ao : Option Addr) (cp m : Nat) (ks : List Pr), n ≤ l.length ∧ i = .int .i64 n ∧ out = .slice ao m cp ∧ m = ks.length ∧ m ≤ n ∧ ks = cutL (l.take n) k ∧ OLoop w wr out ks) (fun _ i _ => l.length - (intOf i).toNat)
  case atStart => exact ⟨0, none, 0, 0, [], Nat.zero_le _, rfl, rfl, rfl, Nat.le_refl _, rfl, PRow.nil _ _, Below.refl _ _⟩
  case round =>
    obtain ⟨n, ao, cp, m, ks, hn, rfl, rfl, rfl, hm, hks, hK⟩ := hrel
    have HKS := Lib.hid hks
    clear hks
    by_cases hlt : n < l.length
    · obtain ⟨q, hq⟩ : ∃ q, l[n]? = some q := ⟨_, List.getElem?_eq_getElem hlt⟩
      obtain ⟨b, o, rfl, c0, c1⟩ := (HH.out.below hK.b).2.2 n q hq
      obtain ⟨x0, x1⟩ := q
      dsimp only at c0 c1
      have HT := Lib.hid (cutL_take k hq)
      clear hq
      have hal := (Below.refl wr.heap.size wr).alloc (Nat.le_refl _) (.cells #[.int .i64 x0, .int .i64 x1] 24)
      have HR := Lib.hid (hK.row.below hal)
      have HK2 : Hid (OLoop w (wr.alloc (.cells #[.int .i64 x0, .int .i64 x1] 24)) (.slice ao ks.length cp) ks) := Lib.hid ⟨HR.out, hK.b.alloc hK.b.size _⟩
      have hws := hK.b.size
      have HS : Hid (∀ j, j < w.heap.size → j < (wr.alloc (.cells #[.int .i64 x0, .int .i64 x1] 24)).heap.size) := Lib.hid (fun j hj => by simp; omega)
      clear hK hal
      by_cases hne : x0 = k
      · have hne' : (x0 != k) = false := by simp [hne]
        have HN := Lib.hid hne'
        clear hne
        go_wp2_with (fail)
        go_roundw
        case rel => exact ⟨n + 1, ao, cp, ks.length, ks, by omega, by go_num, rfl, rfl, by omega, by rw [HT.out, cutL_one_no HN.out, List.append_nil]; exact HKS.out, HK2.out⟩
        case measure => simp [intOf]; omega
      · have hne' : (x0 != k) = true := by simp [hne]
        have HN := Lib.hid hne'
        clear hne
        go_wp2_with (first | (at_builtin; refine wpList_push rfl (.tmp 18) (.tmp 20) rfl (fun j => j < w.heap.size) _ ks x0 x1 rfl HR.out HS.out _ rfl (by simp) (by omega) ?_; intro ao1 cp1 w3 hm1 hc1 hR1 hk1 hO1; have HF := Lib.hid (HK2.out.push (q := (x0, x1)) hR1 hO1); clear hR1 hk1 hO1))
        go_roundw
        case rel => exact ⟨n + 1, ao1, cp1, ks.length + 1, ks ++ [(x0, x1)], by omega, by go_num, rfl, by simp, by omega, by rw [HT.out, cutL_one HN.out, ← HKS.out], HF.out⟩
        case measure => simp [intOf]; omega
    · obtain rfl : n = l.length := by omega
      have eL : ks = cutL l k := by rw [HKS.out, List.take_of_length_le (Nat.le_refl _)]
      have HL := Lib.hid hK
      have HE := Lib.hid eL
      clear hK eL
      go_wp2_with (fail)
      go_ret
      rw [← HE.out]
      exact ⟨_, _, rfl, HL.out.row.prs rfl, HL.out.b, prow_fresh HL.out.row (fun k hk => hk)⟩

theorem prs_only {S : Nat → Prop} {W W' : World} {a : Option Addr} {cap : Nat} {l : List Pr} (h : Prs W a cap l) (o : Only S W W') (hS : ∀ b o, a = some ⟨b, o, none⟩ → ¬ S b) : Prs W' a cap l := by
  refine ⟨h.1, h.2.1, fun n q hq => ?_⟩
  obtain ⟨b, of, rfl, h0, h1⟩ := h.2.2 n q hq
  exact ⟨b, of, rfl, o.cell h0 (hS b of rfl), o.cell h1 (hS b of rfl)⟩

/-- An arena, a row of pairs beside it. -/
structure AS (G : Nat → Prop) (W2 W : World) (p : Nat) (L : List It) (ao : Option Addr) (cp : Nat) (m : List Pr) : Prop where
  a : Arena W p G 20000 0 L
  g : ∀ j, G j → W2.heap.size ≤ j
  r : ∀ b o, ao = some ⟨b, o, none⟩ → ¬ G b ∧ b < W.heap.size
  P : Prs W ao cp m
  b : Below W2.heap.size W2 W
/-- .. and an operation in a block of its own. -/
structure AD (G : Nat → Prop) (W2 W : World) (p : Nat) (L : List It) (ao : Option Addr) (cp : Nat) (m : List Pr) (db : Nat) (d k v : Int) : Prop extends AS G W2 W p L ao cp m where
  d0 : W.cell? ⟨db, 0, none⟩ = some (.int .i64 d)
  d1 : W.cell? ⟨db, 1, none⟩ = some (.int .i64 k)
  d2 : W.cell? ⟨db, 2, none⟩ = some (.int .i64 v)
  dg : ¬ G db

section
variable {G : Nat → Prop} {W2 W W' : World} {p cp db cp' : Nat} {L L' : List It} {ao ao' : Option Addr} {m m' : List Pr} {d k v : Int}
theorem AS.below (H : AS G W2 W p L ao cp m) (hb : Below W.heap.size W W') : AS G W2 W' p L ao cp m :=
  ⟨H.a.below hb, H.g, fun b o e => ⟨(H.r b o e).1, Nat.lt_of_lt_of_le (H.r b o e).2 hb.size⟩, H.P.below hb, H.b.trans (hb.mono H.b.size)⟩
theorem AD.below (H : AD G W2 W p L ao cp m db d k v) (hb : Below W.heap.size W W') : AD G W2 W' p L ao cp m db d k v :=
  ⟨H.toAS.below hb, (hb.cell (World.block_lt_of_cell? _ _ H.d0)).trans H.d0, (hb.cell (World.block_lt_of_cell? _ _ H.d1)).trans H.d1, (hb.cell (World.block_lt_of_cell? _ _ H.d2)).trans H.d2, H.dg⟩
theorem AD.begin (H : AS G W2 W p L ao cp m) (d k v : Int) (t : TypeId) : AD (fun j => G j ∧ j ≠ W.heap.size) W2 (W.alloc (.cells #[.int .i64 d, .int .i64 k, .int .i64 v] t)) p L ao cp m W.heap.size d k v := by
  have hb := (Below.refl W.heap.size W).alloc (Nat.le_refl _) (.cells #[.int .i64 d, .int .i64 k, .int .i64 v] t)
  have H1 := H.below hb
  exact ⟨⟨H.a.fresh _, fun j hj => H.g j hj.1, fun b o e => ⟨fun hh => (H.r b o e).1 hh.1, (H1.r b o e).2⟩, H1.P, H1.b⟩, by simp, by simp, by simp, fun hh => hh.2 rfl⟩
theorem AD.grew (H : AD G W2 W p L ao cp m db d k v) (g : Grew W p G 20000 0 L' W') : AD (Plus G W W') W2 W' p L' ao cp m db d k v := by
  have hs := g.2.size
  have hs2 := H.b.size
  refine ⟨⟨g.1, fun j hj => ?_, fun b o e => ⟨fun hh => ?_, Nat.lt_of_lt_of_le (H.r b o e).2 hs⟩, prs_only H.P g.2 (fun b o e => (H.r b o e).1), H.b.trans (g.2.below H.g H.b.size)⟩,
    g.2.cell H.d0 H.dg, g.2.cell H.d1 H.dg, g.2.cell H.d2 H.dg, fun hh => ?_⟩
  · rcases hj with hj | hj
    · exact H.g j hj
    · omega
  · have := (H.r b o e).2
    rcases hh with hh | hh
    · exact (H.r b o e).1 hh
    · omega
  · have := World.block_lt_of_cell? _ _ H.d0
    rcases hh with hh | hh
    · exact H.dg hh
    · dsimp only at this; omega
theorem Arena.inside {W : World} {p : Nat} {G : Nat → Prop} {room st : Int} {l : List It} (h : Arena W p G room st l) : Arena W p (fun j => G j ∧ j < W.heap.size) room st l := h.mono (fun k hk hlt => ⟨hk, hlt⟩)
theorem AD.row (H : AD G W2 W p L ao cp m db d k v) (hb : Below W.heap.size W W') (hP : Prs W' ao' cp' m') (hf : ∀ b o, ao' = some ⟨b, o, none⟩ → W.heap.size ≤ b ∧ b < W'.heap.size) :
    AD (fun j => G j ∧ j < W.heap.size) W2 W' p L ao' cp' m' db d k v :=
  ⟨⟨(H.a.inside).below hb, fun j hj => H.g j hj.1, fun b o e => ⟨fun hh => by have := (hf b o e).1; have := hh.2; omega, (hf b o e).2⟩, hP, (H.below hb).b⟩, (H.below hb).d0, (H.below hb).d1, (H.below hb).d2, fun hh => H.dg hh.1⟩

end
theorem lo_ge {l : List Pr} (hs : Srt l) (k : Int) : loL l k ++ geL l k = l := by
  induction l with
  | nil => rfl
  | cons z l ih =>
    have hs' : Srt l := (List.pairwise_cons.1 hs).2
    have hz := (List.pairwise_cons.1 hs).1
    by_cases h : z.1 < k
    · have e1 : loL (z :: l) k = z :: loL l k := by unfold loL; rw [List.filter_cons_of_pos (by simpa using h)]
      have e2 : geL (z :: l) k = geL l k := by unfold geL; rw [List.filter_cons_of_neg (by simp; omega)]
      rw [e1, e2, List.cons_append, ih hs']
    · have h' : ∀ x ∈ z :: l, k ≤ x.1 := by
        intro x hx
        rcases List.mem_cons.1 hx with rfl | hx
        · omega
        · have := hz x hx; omega
      rw [loL_none h', geL_all h', List.nil_append]
section
variable {w : World} {p : Nat} {F : Nat → Prop} {room st : Int} {L : List It} {l r : Int}
theorem two_okA {A B : List Pr} (hA : Arena w p F room st L) (TA : Tree L l A) (TB : Tree L r B) (hl : A.length + B.length ≤ 1000) (hs : Srt (A ++ B)) (hr : ((L.length + (hi A + hi B) : Nat) : Int) ≤ room) :
    Calls Try.prog 27 #[.pointer (some ⟨p, 0, none⟩), .int .i64 l, .int .i64 r] w fun e w' =>
      ∃ (n : Int) (M : List It), e = .returned (.tuple #[.int .i64 n, .int .i64 0]) ∧ Grew w p F room st (L ++ M) w' ∧ M.length ≤ hi A + hi B ∧ Tree (L ++ M) n (A ++ B) := by
  refine (two_any hA TA TB hl hs).mono ?_
  rintro e w' ⟨n, er, M, rfl, hg, hq⟩
  rcases hq with ⟨rfl, hM, hT⟩ | ⟨rfl, hr2, hM⟩
  · exact ⟨n, M, rfl, hg, hM, hT⟩
  · exfalso
    rw [List.length_append] at hr2; omega
end
section
variable {G : Nat → Prop} {W2 W W' : World} {p cp db cp' : Nat} {L L' : List It} {ao ao' : Option Addr} {m m' : List Pr} {d k v : Int}
variable {t : Int}
theorem put_ad (H : AD G W2 W p L ao cp m db d k v) (T : Tree L t m) (hs : Srt m) (hl : m.length ≤ 100) (hr : L.length ≤ 19000) :
    Calls Try.prog 20 #[.pointer (some ⟨p, 0, none⟩), .int .i64 t, .agg #[.int .i64 k, .int .i64 v]] W fun e w' =>
      ∃ (n old : Int) (there : Bool) (L' : List It) (G' : Nat → Prop), e = .returned (.tuple #[.int .i64 n, .int .i64 old, .bool there, .int .i64 0]) ∧ AD G' W2 w' p L' ao cp m db d k v ∧ L'.length ≤ L.length + 200 ∧ Tree L' n (withL m k v) := by
  have hh := hi_le _ m (Nat.le_refl _)
  refine (put_any H.a T hs (by omega)).mono ?_
  rintro e w' ⟨n, old, er, there, M, rfl, hg, ⟨rfl, hM, hT, rfl, rfl⟩ | ⟨_, _, _, _, hr2, hM⟩⟩
  · exact ⟨n, _, _, _, _, rfl, H.grew hg, by rw [List.length_append]; omega, hT⟩
  · exfalso; rw [List.length_append] at hr2; omega
theorem add_ad_no (H : AD G W2 W p L ao cp m db d k v) (T : Tree L t m) (hs : Srt m) (hl : m.length ≤ 100) (hr : L.length ≤ 19000) (hn : findL m k = none) :
    Calls Try.prog 22 #[.pointer (some ⟨p, 0, none⟩), .int .i64 t, .agg #[.int .i64 k, .int .i64 v]] W fun e w' =>
      ∃ (n old : Int) (there : Bool) (L' : List It) (G' : Nat → Prop), e = .returned (.tuple #[.int .i64 n, .int .i64 old, .bool there, .int .i64 0]) ∧ AD G' W2 w' p L' ao cp m db d k v ∧ L'.length ≤ L.length + 200 ∧ Tree L' n (withL m k v) := by
  have hh := hi_le _ m (Nat.le_refl _)
  refine (add_any H.a T hs (by omega) hn).mono ?_
  rintro e w' ⟨n, old, er, there, M, rfl, hg, ⟨rfl, hM, hT, rfl, rfl⟩ | ⟨_, _, _, _, hr2, hM⟩⟩
  · exact ⟨n, _, _, _, _, rfl, H.grew hg, by rw [List.length_append]; omega, hT⟩
  · exfalso; rw [List.length_append] at hr2; omega
theorem add_ad_yes (H : AD G W2 W p L ao cp m db d k v) (T : Tree L t m) (hs : Srt m) {q : Pr} (hf : findL m k = some q) :
    Calls Try.prog 22 #[.pointer (some ⟨p, 0, none⟩), .int .i64 t, .agg #[.int .i64 k, .int .i64 v]] W fun e w' =>
      e = .returned (.tuple #[.int .i64 t, .int .i64 q.2, .bool true, .int .i64 0]) ∧ AD G W2 w' p L ao cp m db d k v := by
  refine (add_there _ t k v q.2 W (fun V hb => lget_any t k V (Gets.ofArena (H.a.below hb)) q.2 true (by rw [get_tree T k hs, hf]; rfl) (by rw [get_tree T k hs, hf]; rfl))).mono ?_
  rintro e w' ⟨he, hb⟩
  exact ⟨he, H.below hb⟩
theorem cut_ad_no (H : AD G W2 W p L ao cp m db d k v) (T : Tree L t m) (hs : Srt m) (hl : m.length ≤ 100) (hn : findL m k = none) :
    Calls Try.prog 24 #[.pointer (some ⟨p, 0, none⟩), .int .i64 t, .int .i64 k] W fun e w' =>
      e = .returned (.tuple #[.int .i64 t, .int .i64 0, .bool false, .int .i64 0]) ∧ AD G W2 w' p L ao cp m db d k v := by
  refine (cut_none H.a T hs (by omega) (by rw [hn]; rfl)).mono ?_
  rintro e w' ⟨he, hb⟩
  exact ⟨he, H.below hb⟩
theorem cut_ad_yes (H : AD G W2 W p L ao cp m db d k v) (T : Tree L t m) (hs : Srt m) (hl : m.length ≤ 100) (hr : L.length ≤ 19000) {q : Pr} (hf : findL m k = some q) :
    Calls Try.prog 24 #[.pointer (some ⟨p, 0, none⟩), .int .i64 t, .int .i64 k] W fun e w' =>
      ∃ (n : Int) (L' : List It) (G' : Nat → Prop), e = .returned (.tuple #[.int .i64 n, .int .i64 q.2, .bool true, .int .i64 0]) ∧ AD G' W2 w' p L' ao cp m db d k v ∧ L'.length ≤ L.length + 200 ∧ Tree L' n (cutL m k) := by
  have hh := hi_le _ m (Nat.le_refl _)
  have hk : q.1 = k := by
    unfold findL at hf
    have := List.find?_some hf
    simpa using this
  obtain ⟨k', v'⟩ := q
  dsimp only at hk
  subst hk
  refine (cut_some H.a T hs (by omega) hf).mono ?_
  rintro e w' ⟨n, er, M, hg, hq, ⟨rfl, rfl⟩ | ⟨he, rfl⟩⟩
  · rcases hq with ⟨_, hM, hT⟩ | ⟨h2, _⟩
    · exact ⟨n, _, _, rfl, H.grew hg, by rw [List.length_append]; omega, hT⟩
    · cases h2
  · exfalso
    rcases hq with ⟨h2, _⟩ | ⟨h2, hr2, hM⟩
    · exact he h2
    · rw [List.length_append] at hr2; omega
theorem part_ad (H : AD G W2 W p L ao cp m db d k v) (T : Tree L t m) (hs : Srt m) (hl : m.length ≤ 100) (hr : L.length ≤ 19000) :
    Calls Try.prog 26 #[.pointer (some ⟨p, 0, none⟩), .int .i64 t, .int .i64 k] W fun e w' =>
      ∃ (x y : Int) (L' : List It) (G' : Nat → Prop) (A B : List Pr), e = .returned (.tuple #[.int .i64 x, .int .i64 y, .int .i64 0]) ∧ AD G' W2 w' p L' ao cp m db d k v ∧ L'.length ≤ L.length + 100 ∧ Tree L' x A ∧ Tree L' y B ∧ A ++ B = m := by
  have hh := hi_le _ m (Nat.le_refl _)
  refine (pat_any (k := k) H.a T hs (by omega)).mono ?_
  rintro e w' ⟨x, y, er, M, rfl, hg, ⟨rfl, hM, h1, h2⟩ | ⟨rfl, hr2, hM, _⟩⟩
  · exact ⟨x, y, _, _, _, _, rfl, H.grew hg, by rw [List.length_append]; omega, h1, h2, lo_ge hs k⟩
  · exfalso; rw [List.length_append] at hr2; omega
theorem half_ad_few (H : AD G W2 W p L ao cp m db d k v) (T : Tree L t m) (h2 : m.length < 2) :
    Calls Try.prog 28 #[.pointer (some ⟨p, 0, none⟩), .int .i64 t] W fun e w' =>
      e = .returned (.tuple #[.int .i64 0, .int .i64 0, .int .i64 0, .int .i64 3]) ∧ AD G W2 w' p L ao cp m db d k v := by
  refine (half_none H.a T h2).mono ?_
  rintro e w' ⟨he, hb⟩
  exact ⟨he, H.below hb⟩
theorem half_ad (H : AD G W2 W p L ao cp m db d k v) (T : Tree L t m) (hs : Srt m) (hl : m.length ≤ 100) (hr : L.length ≤ 19000) (h2 : 2 ≤ m.length) :
    Calls Try.prog 28 #[.pointer (some ⟨p, 0, none⟩), .int .i64 t] W fun e w' =>
      ∃ (kk x y : Int) (L' : List It) (G' : Nat → Prop) (A B : List Pr), e = .returned (.tuple #[.int .i64 kk, .int .i64 x, .int .i64 y, .int .i64 0]) ∧ AD G' W2 w' p L' ao cp m db d k v ∧ L'.length ≤ L.length + 100 ∧ Tree L' x A ∧ Tree L' y B ∧ A ++ B = m := by
  have hh := hi_le _ m (Nat.le_refl _)
  obtain ⟨q, hq⟩ : ∃ q, m[m.length / 2]? = some q := ⟨_, List.getElem?_eq_getElem (by omega)⟩
  refine (half_any H.a T hs (by omega) h2 hq).mono ?_
  rintro e w' ⟨x, y, er, M, hg, ⟨rfl, hM, h1, h2⟩ | ⟨rfl, hr2, hM⟩⟩
  · exact ⟨_, x, y, _, _, _, _, rfl, H.grew hg, by rw [List.length_append]; omega, h1, h2, lo_ge hs _⟩
  · exfalso; rw [List.length_append] at hr2; omega
theorem two_ad (H : AD G W2 W p L ao cp m db d k v) {x y : Int} {A B : List Pr} (TA : Tree L x A) (TB : Tree L y B) (hAB : A ++ B = m) (hs : Srt m) (hl : m.length ≤ 100) (hr : L.length ≤ 19200) :
    Calls Try.prog 27 #[.pointer (some ⟨p, 0, none⟩), .int .i64 x, .int .i64 y] W fun e w' =>
      ∃ (n : Int) (L' : List It) (G' : Nat → Prop), e = .returned (.tuple #[.int .i64 n, .int .i64 0]) ∧ AD G' W2 w' p L' ao cp m db d k v ∧ L'.length ≤ L.length + 100 ∧ Tree L' n m := by
  subst hAB
  have hA := hi_le _ A (Nat.le_refl _)
  have hB := hi_le _ B (Nat.le_refl _)
  rw [List.length_append] at hl
  refine (two_okA H.a TA TB (by omega) hs (by omega)).mono ?_
  rintro e w' ⟨n, M, he, hg, hM, hT⟩
  exact ⟨n, _, _, he, H.grew hg, by rw [List.length_append]; omega, hT⟩
theorem with_ad (H : AD G W2 W p L ao cp m db d k v) (hl : m.length ≤ 100) :
    Calls Try.prog 21 #[.slice ao m.length cp, .agg #[.int .i64 k, .int .i64 v]] W fun e w' =>
      ∃ (ao' : Option Addr) (cp' : Nat) (G' : Nat → Prop), e = .returned (.slice ao' (withL m k v).length cp') ∧ AD G' W2 w' p L ao' cp' (withL m k v) db d k v := by
  refine (with_fr ao cp m k v W H.P (by omega)).mono ?_
  rintro e w' ⟨⟨ao', cp', he, hP, hb, hf⟩, _⟩
  exact ⟨ao', cp', _, he, H.row hb hP hf⟩
theorem without_ad (H : AD G W2 W p L ao cp m db d k v) (hl : m.length ≤ 100) :
    Calls Try.prog 25 #[.slice ao m.length cp, .int .i64 k] W fun e w' =>
      ∃ (ao' : Option Addr) (cp' : Nat) (G' : Nat → Prop), e = .returned (.slice ao' (cutL m k).length cp') ∧ AD G' W2 w' p L ao' cp' (cutL m k) db d k v := by
  refine (without_fr ao cp m k W H.P (by omega)).mono ?_
  rintro e w' ⟨ao', cp', he, hP, hb, hf⟩
  exact ⟨ao', cp', _, he, H.row hb hP hf⟩
theorem find_ad (H : AD G W2 W p L ao cp m db d k v) :
    Calls Try.prog 23 #[.slice ao m.length cp, .int .i64 k] W fun e w' =>
      ∃ j : Int, e = .returned (.int .i64 j) ∧ (j < 0 ↔ findL m k = none) ∧ AD G W2 w' p L ao cp m db d k v := by
  refine (find_any ao cp m k W H.P).mono ?_
  rintro e w' ⟨j, rfl, hk, hb⟩
  refine ⟨j, rfl, ?_, H.below hb⟩
  rcases hk with ⟨rfl, hf⟩ | ⟨i, q, rfl, hi, hik, hf⟩
  · exact ⟨fun _ => hf, fun _ => by decide⟩
  · exact ⟨fun h => by omega, fun h => by rw [hf] at h; cases h⟩
theorem may_ad (H : AD G W2 W p L ao cp m db d k v) {l : List Pr} (T : Tree L t l) (hs : Srt l) (hl : l.length ≤ 100) :
    Calls Try.prog 10 #[.pointer (some ⟨p, 0, none⟩), .int .i64 t] W fun e w' => e = .returned (.bool true) ∧ AD G W2 w' p L ao cp m db d k v :=
  (smay_any H.a t true (may_tree T hs (by omega))).mono fun e w' ⟨he, hb⟩ => ⟨he, H.below hb⟩
theorem says_ad (H : AD G W2 W p L ao cp m db d k v) (T : Tree L t m) (hl : m.length ≤ 100) :
    Calls Try.prog 29 #[.pointer (some ⟨p, 0, none⟩), .int .i64 t, .slice ao m.length cp] W fun e w' => e = .returned (.int .i64 0) ∧ AD G W2 w' p L ao cp m db d k v :=
  (says_any p G 20000 0 L t m T ao cp W H.P H.a (by omega)).mono fun e w' ⟨he, hb⟩ => ⟨he, H.below hb⟩
end
end Go.Proofs.Ytbmlpdkbiipcmaa
