/- Contract of package join: All, round by round; of what is no treap. -/
import Derived.Test.YtellkcppgfghhaaJnR
namespace Go.Proofs.Ytellkcppgfghhaa
open Go.RowKit
set_option linter.all false

section
variable {w : World} {p : Nat} {F : Nat → Prop} {room st : Int} {L : List It}
set_option maxRecDepth 100000 in
set_option maxHeartbeats 3200000 in
theorem all_core (q : Option Addr) {S : Nat → Prop} {ao : Option Addr} {n cap : Nat} {ts : List Int} (hn : n = ts.length) (hcap : n ≤ cap) (hcm : n ≤ 1000000000) (St : Nat → World → Int → Prop)
    (hread : ∀ i W x, St i W x → Nums W S (.slice ao n cap) ts)
    (cref : Calls Try.prog 45 #[.pointer q, .slice ao n cap] w (fun e w' => e = .returned (.int .i64 0) ∧ St 0 w' 0))
    (cstep : ∀ i W x t, St i W x → ts[i]? = some t → Calls Try.prog 24 #[.pointer q, .int .i64 x, .int .i64 t] W (fun e w' => ∃ x' : Int, e = .returned (.tuple #[.int .i64 x', .int .i64 0]) ∧ St (i + 1) w' x')) :
    Calls Try.prog 27 #[.pointer q, .slice ao n cap] w fun e w' => ∃ x : Int, e = .returned (.tuple #[.int .i64 x, .int .i64 0]) ∧ St n w' x := by
  have HN := Lib.hid hn
  have HR := Lib.hid hread
  have CS := Lib.hid cstep
  clear hn hread cstep
  go_enter Try.func27, Try.ntmps27
  go_wp2_with (go_at_call 45; ((with_reducible refine cref.mono ?_); clear cref; rintro e w1 ⟨rfl, hst⟩))
  go_loopw [6, 7, 8] (fun tv ev iv wr => ∃ (x : Int) (i : Nat), tv = .int .i64 x ∧ ev = .int .i64 0 ∧ iv = .int .i64 i ∧ i ≤ n ∧ St i wr x) (fun _ _ iv _ => n - (intOf iv).toNat)
  case atStart => exact ⟨0, 0, rfl, rfl, rfl, Nat.zero_le _, hst⟩
  case round =>
    clear hst
    obtain ⟨x, i, rfl, rfl, rfl, hi, hst⟩ := hrel
    by_cases hlt : i < n
    · obtain ⟨t, ht⟩ : ∃ t, ts[i]? = some t := ⟨_, List.getElem?_eq_getElem (by have := HN.out; omega)⟩
      obtain ⟨g, rfl, _, dt⟩ := (HR.out i wr x hst).at ht
      have cc := CS.out i wr x t hst ht
      have hi0 : (0 : Int) ≤ (i : Int) := by omega
      have hi1 : (i : Int) < (n : Int) := by omega
      have HLT := Lib.hid hlt
      clear hst ht
      go_wp2_with (go_at_call 24; ((with_reducible refine cc.mono ?_); clear cc; rintro e w2 ⟨x', rfl, hst2⟩))
      go_roundw
      case rel => exact ⟨x', i + 1, rfl, rfl, by go_num, by have := HLT.out; omega, hst2⟩
      case measure => have := HLT.out; simp [intOf]; omega
    · obtain rfl : i = n := by omega
      have HST := Lib.hid hst
      clear hst
      go_wp2_with (fail)
      go_ret2
      exact ⟨x, rfl, HST.out⟩

set_option maxRecDepth 100000 in
set_option maxHeartbeats 3200000 in
theorem ref_no {S : Nat → Prop} {ao : Option Addr} {cap : Nat} {t : Int} (hA : Arena w p F room st L) (hts : Nums w S (.slice ao 1 cap) [t]) (hcap : 1 ≤ cap) (hcm : cap ≤ 1000000000) (ht : ¬ HungOk L t) :
    Calls Try.prog 45 #[.pointer (some ⟨p, 0, none⟩), .slice ao 1 cap] w fun e w' => e = .returned (.int .i64 1) ∧ Below w.heap.size w w' := by
  obtain ⟨r0, hr0⟩ : ∃ r0, room - (L.length : Int) = r0 := ⟨_, rfl⟩
  have cr := room_any w p F room st L hA
  rw [hr0] at cr
  have ct := fun (W : World) (hb : Below w.heap.size w W) => isTreap_is (hA.below hb) t false ⟨fun h => Bool.noConfusion h, fun h => absurd h ht⟩
  obtain ⟨g, rfl, _, dt⟩ := hts.at (i := 0) (x := t) rfl
  have DT := Lib.hid dt
  clear hA hts ht hr0 dt
  go_enter Try.func45, Try.ntmps45
  go_wp2_with (go_at_call 55; ((with_reducible refine cr.mono ?_); clear cr; rintro e w1 ⟨rfl, nq, rfl⟩))
  go_loopw [17] (fun iv wr => iv = .int .i64 0 ∧ Below w.heap.size w wr) (fun _ _ => 0)
  case atStart => exact ⟨rfl, below_drewN (Below.refl _ _) _⟩
  case round =>
    obtain ⟨rfl, hb⟩ := hrel
    have dt := (hb.cell (p := ⟨g, 0, none⟩) (World.block_lt_of_cell? w _ DT.out)).trans DT.out
    go_wp2_with (go_at_call 35; ((with_reducible refine (ct _ hb).mono ?_); clear ct; rintro e w2 ⟨rfl, hb2⟩))
    go_ret
    exact ⟨rfl, hb.trans (hb2.mono hb.size)⟩
set_option maxRecDepth 100000 in
set_option maxHeartbeats 3200000 in
/-- All, where refusal tells an error. -/
theorem all_err (q : Option Addr) {ao : Option Addr} {n cap : Nat} {er : Int} (her : er ≠ 0) 
    (cref : Calls Try.prog 45 #[.pointer q, .slice ao n cap] w (fun e w' => e = .returned (.int .i64 er) ∧ Below w.heap.size w w')) :
    Calls Try.prog 27 #[.pointer q, .slice ao n cap] w fun e w' => e = .returned (.tuple #[.int .i64 0, .int .i64 er]) ∧ Below w.heap.size w w' := by
  have he : (er == 0) = false := by simpa using her
  clear her
  go_enter Try.func27, Try.ntmps27
  go_wp2_with (go_at_call 45; ((with_reducible refine cref.mono ?_); clear cref; rintro e w1 ⟨rfl, hb⟩))
  go_loopw [6, 7, 8] (fun tv ev iv wr => tv = .int .i64 0 ∧ ev = .int .i64 er ∧ iv = .int .i64 0 ∧ wr = w1) (fun _ _ _ _ => 0)
  case atStart => exact ⟨rfl, rfl, rfl, rfl⟩
  case round =>
    obtain ⟨rfl, rfl, rfl, rfl⟩ := hrel
    by_cases h0 : (0 : Int) < (n : Int)
    · go_wp2_with (fail)
      go_ret2
      exact ⟨rfl, hb⟩
    · have h1 : n = 0 := by omega
      subst h1
      go_wp2_with (fail)
      go_ret2
      exact ⟨rfl, hb⟩
end

/-! ### Rows of treaps -/

/-- Treaps in a row, each with its pairs. -/
def Forest (L : List It) (ts : List Int) (ls : List (List Pr)) : Prop := ts.length = ls.length ∧ ∀ (i : Nat) (t : Int) (l : List Pr), ts[i]? = some t → ls[i]? = some l → Tree L t l
theorem Forest.nil (L : List It) : Forest L [] [] := ⟨rfl, fun i t l h => by simp at h⟩
theorem Forest.app {L : List It} {ts : List Int} {ls : List (List Pr)} (h : Forest L ts ls) (M : List It) : Forest (L ++ M) ts ls := ⟨h.1, fun i t l h1 h2 => (h.2 i t l h1 h2).app M⟩
theorem Forest.snoc {L : List It} {ts : List Int} {ls : List (List Pr)} (h : Forest L ts ls) {t : Int} {l : List Pr} (T : Tree L t l) : Forest L (ts ++ [t]) (ls ++ [l]) := by
  refine ⟨by simp [h.1], fun i t' l' h1 h2 => ?_⟩
  rcases Nat.lt_or_ge i ts.length with hi | hi
  · rw [List.getElem?_append_left hi] at h1
    rw [List.getElem?_append_left (by rw [← h.1]; exact hi)] at h2
    exact h.2 i t' l' h1 h2
  · rw [List.getElem?_append_right hi] at h1
    rw [List.getElem?_append_right (by rw [← h.1]; exact hi), ← h.1] at h2
    have hz : i - ts.length = 0 := by have := (List.getElem?_eq_some_iff.1 h1).1; simp at this; omega
    rw [hz] at h1 h2
    simp at h1 h2
    subst h1; subst h2
    exact T

/-- What has been joined of a row so far. -/
def AllSt (w : World) (p : Nat) (F : Nat → Prop) (room st : Int) (L : List It) (S : Nat → Prop) (v : Value) (ts : List Int) (ls : List (List Pr)) (i : Nat) (W : World) (x : Int) : Prop :=
  ∃ M : List It, Grew w p F room st (L ++ M) W ∧ M.length ≤ cost 0 (ls.take i) ∧ Tree (L ++ M) x (ls.take i).flatten ∧ Nums W S v ts

theorem cost_app (a b : List (List Pr)) : ∀ s, cost s (a ++ b) = cost s a + cost (s + a.flatten.length) b := by
  induction a with
  | nil => intro s; simp [cost]
  | cons l a ih =>
    intro s
    simp only [List.cons_append, cost, List.flatten_cons, List.length_append]
    rw [ih, show s + l.length + a.flatten.length = s + (l.length + a.flatten.length) by omega]
    omega
theorem take_succ_flat {ls : List (List Pr)} {i : Nat} {B : List Pr} (h : ls[i]? = some B) : (ls.take (i + 1)) = ls.take i ++ [B] := by
  rw [List.take_succ, h]; rfl
theorem cost_take (ls : List (List Pr)) (i : Nat) : cost 0 (ls.take i) ≤ cost 0 ls := by
  conv => rhs; rw [← List.take_append_drop i ls]
  rw [cost_app]
  omega

section
variable {w : World} {p : Nat} {F : Nat → Prop} {room st : Int} {L : List It}
theorem all_ok {S : Nat → Prop} {ao : Option Addr} {n cap : Nat} {ts : List Int} {ls : List (List Pr)} (hA : Arena w p F room st L) (hts : Nums w S (.slice ao n cap) ts) (hS : ∀ k, k < w.heap.size → F k → S k) (hn : n = ts.length) (hcap : n ≤ cap) (hcm : n ≤ 1000000000)
    (hT : Forest L ts ls) (hs : Srt ls.flatten) (hl : ls.flatten.length ≤ 500) (hroom : ((L.length + cost 0 ls : Nat) : Int) ≤ room) :
    Calls Try.prog 27 #[.pointer (some ⟨p, 0, none⟩), .slice ao n cap] w fun e w' => ∃ (x : Int) (M : List It), e = .returned (.tuple #[.int .i64 x, .int .i64 0]) ∧ Grew w p F room st (L ++ M) w' ∧ M.length ≤ cost 0 ls ∧ Tree (L ++ M) x ls.flatten := by
  have hts' : Nums w (fun k => F k ∨ w.heap.size ≤ k) (.slice ao n cap) ts := hts.sub (fun k hk h => hS k hk (h.resolve_right (by omega)))
  refine (all_core _ (S := fun k => F k ∨ w.heap.size ≤ k) hn hcap hcm (AllSt w p F room st L (fun k => F k ∨ w.heap.size ≤ k) (.slice ao n cap) ts ls) (fun i W x h => h.choose_spec.2.2.2) ?_ ?_).mono ?_
  · refine (ref_ok hA hts hn hcap hT.1 hT.2 hs hl hroom).mono ?_
    rintro e w' ⟨rfl, hb⟩
    exact ⟨rfl, [], by rw [List.append_nil]; exact Grew.ofBelow hA hb, by simp, by simpa using Tree.nil, hts'.below hb⟩
  · rintro i W x t ⟨M, hg, hM, TX, hN⟩ ht
    obtain ⟨B, hB⟩ : ∃ B, ls[i]? = some B := ⟨_, List.getElem?_eq_getElem (by rw [← hT.1]; exact (List.getElem?_eq_some_iff.1 ht).1)⟩
    have TB := (hT.2 i t B ht hB).app M
    have e1 := take_succ_flat hB
    have ef : (ls.take (i + 1)).flatten = (ls.take i).flatten ++ B := by rw [e1]; simp
    have hsI : Srt ((ls.take i).flatten ++ B) := by
      rw [← ef]
      have := List.take_append_drop (i + 1) ls
      rw [← this, List.flatten_append] at hs
      exact hs.two.1
    have hlen := take_flat_le ls (i + 1)
    rw [ef, List.length_append] at hlen
    have hcost : cost 0 (ls.take (i + 1)) = cost 0 (ls.take i) + (if B = [] then 0 else (ls.take i).flatten.length + B.length) := by
      rw [e1, cost_app]; simp [cost]
    have hct := cost_take ls (i + 1)
    by_cases hne : B = []
    · subst hne
      have ht0 := TB.nil_zero
      subst ht0
      refine (two_right hg.1 TX (by omega) (by simpa using hsI)).mono ?_
      rintro e w' ⟨rfl, hb⟩
      refine ⟨x, rfl, M, ⟨hg.1.below hb |>.mono (fun k hk _ => hk.imp id (fun h => ⟨h.1, Nat.lt_of_lt_of_le h.2 hb.size⟩)), hg.2.thenBelow hb⟩, by rw [hcost]; simpa using hM, by rw [ef, List.append_nil]; exact TX, hN.below hb⟩
    · rw [if_neg hne] at hcost
      refine (two_any hg.1 TX TB (by omega) hsI).mono ?_
      rintro e w' ⟨z, er, M2, rfl, hg2, hq⟩
      have hi1 := hi_le _ (ls.take i).flatten (Nat.le_refl _)
      have hi2 := hi_le _ B (Nat.le_refl _)
      rcases hq with ⟨rfl, hM2, hT2⟩ | ⟨rfl, hr2, hM2⟩
      · refine ⟨z, rfl, M ++ M2, ?_, by rw [List.length_append]; omega, by rw [ef, ← List.append_assoc]; exact hT2, ?_⟩
        · rw [← List.append_assoc]
          refine ⟨hg2.1.mono (fun k hk _ => ?_), hg.2.trans hg2.2 (fun k hk hlt => ?_)⟩
          · rcases hk with (hk | hk) | hk
            · exact .inl hk
            · exact .inr ⟨hk.1, Nat.lt_of_lt_of_le hk.2 hg2.2.size⟩
            · exact .inr ⟨Nat.le_trans hg.2.size hk.1, hk.2⟩
          · rcases hk with hk | hk
            · exact hk
            · omega
        · exact hN.only hg2.2 (fun k hk => hk.imp id (fun h => h.1))
      · exfalso
        rw [List.length_append, List.length_append] at hr2
        omega
  · rintro e w' ⟨x, rfl, M, hg, hM, TX, _⟩
    obtain rfl : n = ls.length := by rw [hn]; exact hT.1
    rw [List.take_length] at hM TX
    exact ⟨x, M, rfl, hg, hM, TX⟩
end
end Go.Proofs.Ytellkcppgfghhaa
