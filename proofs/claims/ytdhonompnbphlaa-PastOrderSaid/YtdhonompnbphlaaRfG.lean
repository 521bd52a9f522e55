/- osierref1's functions on rows of pairs, without an arena: With, Without, Between, SamePairs, Find, MayPairs exactly; leaf.May the same. No condition: definitions and lemmas. -/
import Derived.Test.YtdhonompnbphlaaPrG
import Derived.LoopTactic
namespace Go.Proofs.Ytdhonompnbphlaa
open Go.RowKit
set_option linter.all false

/-- What the loop of With keeps. -/
structure WLoop (w : World) (k v : Int) (out : Value) (l' : List Pr) (wr : World) : Prop where
  row : PRow wr (fun j => j ≤ w.heap.size) out l'
  b0 : wr.cell? ⟨w.heap.size, 0, none⟩ = some (.int .i64 k)
  b1 : wr.cell? ⟨w.heap.size, 1, none⟩ = some (.int .i64 v)
  b : Below w.heap.size w wr
theorem WLoop.past {w wr : World} {k v : Int} {out : Value} {l' : List Pr} (h : WLoop w k v out l' wr) (o : Obj) : WLoop w k v out l' (wr.alloc o) :=
  ⟨h.row.below ((Below.refl _ _).alloc (Nat.le_refl _) o), cell_alloc h.b0 o, cell_alloc h.b1 o, h.b.trans (((Below.refl wr.heap.size wr).alloc (Nat.le_refl _) o).mono h.b.size)⟩
/-- Behind an append. -/
theorem WLoop.push {w wr w1 : World} {k v : Int} {out out' : Value} {l' l2 : List Pr} {c : Nat} (h : WLoop w k v out l' wr)
    (hR : PRow w1 (fun j => j ≤ w.heap.size ∨ j = c) out' l2) (hc : ∀ q u, (q.block ≤ w.heap.size ∨ q.block = c) → wr.cell? q = some u → w1.cell? q = some u) (hO : Only (fun j => ¬ (j ≤ w.heap.size ∨ j = c)) wr w1) : WLoop w k v out' l2 w1 :=
  ⟨⟨hR.row, fun j hj hs => hR.av j hj (.inl hs)⟩, hc _ _ (.inl (Nat.le_refl _)) h.b0, hc _ _ (.inl (Nat.le_refl _)) h.b1, only_below (w0 := w) h.b hO (fun j hj => .inl (by omega))⟩

/-- What With tells. -/
def WithIs (w : World) (L : List Pr) (e : Ending) (w' : World) : Prop :=
  ∃ ao cp, e = .returned (.slice ao L.length cp) ∧ PRow w' (fun j => j < w.heap.size) (.slice ao L.length cp) L ∧ Below w.heap.size w w'

def cutL (l : List Pr) (k : Int) : List Pr := l.filter (fun z => z.1 != k)
theorem cutL_mem {l : List Pr} {k : Int} {z : Pr} : z ∈ cutL l k ↔ z ∈ l ∧ z.1 ≠ k := by unfold cutL; rw [List.mem_filter]; simp
theorem cutL_nil (k : Int) : cutL [] k = [] := rfl
theorem cutL_srt {l : List Pr} (h : Srt l) (k : Int) : Srt (cutL l k) := h.filter _
theorem cutL_len (l : List Pr) (k : Int) : (cutL l k).length ≤ l.length := List.length_filter_le _ _
theorem cutL_all {l : List Pr} {k : Int} (h : ∀ z ∈ l, z.1 ≠ k) : cutL l k = l := List.filter_eq_self.2 (fun z hz => by simpa using h z hz)
theorem cutL_take {l : List Pr} {n : Nat} {q : Pr} (k : Int) (hq : l[n]? = some q) : cutL (l.take (n + 1)) k = cutL (l.take n) k ++ cutL [q] k := by
  have e : l.take (n + 1) = l.take n ++ [q] := by rw [List.take_succ, hq]; rfl
  rw [e]; unfold cutL; rw [List.filter_append]
theorem cutL_one {x0 x1 k : Int} (h : (x0 != k) = true) : cutL [(x0, x1)] k = [(x0, x1)] := by unfold cutL; simp at h; simp [h]
theorem cutL_one_no {x0 x1 k : Int} (h : (x0 != k) = false) : cutL [(x0, x1)] k = [] := by unfold cutL; simp at h; simp [h]
/-- What the loop keeps. -/
structure OLoop (w wr : World) (out : Value) (ks : List Pr) : Prop where
  row : PRow wr (fun j => j < w.heap.size) out ks
  b : Below w.heap.size w wr
theorem OLoop.push {w wr w1 : World} {out out' : Value} {ks : List Pr} {q : Pr} (h : OLoop w wr out ks)
    (hR : PRow w1 (fun j => j < w.heap.size) out' (ks ++ [q])) (hO : Only (fun j => ¬ (j < w.heap.size)) wr w1) : OLoop w w1 out' (ks ++ [q]) :=
  ⟨hR, only_below (w0 := w) h.b hO (fun j hj => hj)⟩

def rngL (l : List Pr) (lo hi : Int) : List Pr := l.filter (fun z => decide (lo ≤ z.1) && decide (z.1 ≤ hi))
theorem rngL_nil (lo hi : Int) : rngL [] lo hi = [] := rfl
theorem rngL_mem {l : List Pr} {lo hi : Int} {z : Pr} : z ∈ rngL l lo hi ↔ z ∈ l ∧ lo ≤ z.1 ∧ z.1 ≤ hi := by
  unfold rngL
  rw [List.mem_filter, Bool.and_eq_true, decide_eq_true_iff, decide_eq_true_iff]
theorem rngL_srt {l : List Pr} (h : Srt l) (lo hi : Int) : Srt (rngL l lo hi) := h.filter _
theorem rngL_len (l : List Pr) (lo hi : Int) : (rngL l lo hi).length ≤ l.length := List.length_filter_le _ _
theorem rngL_app (A B : List Pr) (lo hi : Int) : rngL (A ++ B) lo hi = rngL A lo hi ++ rngL B lo hi := List.filter_append ..
theorem rngL_in {q : Pr} {lo hi : Int} (h1 : lo ≤ q.1) (h2 : q.1 ≤ hi) (B : List Pr) : rngL (q :: B) lo hi = q :: rngL B lo hi := List.filter_cons_of_pos (by simp; omega)
theorem rngL_out {q : Pr} {lo hi : Int} (h : ¬ (lo ≤ q.1 ∧ q.1 ≤ hi)) (B : List Pr) : rngL (q :: B) lo hi = rngL B lo hi := List.filter_cons_of_neg (by simp; omega)
theorem rngL_none {l : List Pr} {lo hi : Int} (h : ∀ z ∈ l, ¬ (lo ≤ z.1 ∧ z.1 ≤ hi)) : rngL l lo hi = [] :=
  List.filter_eq_nil_iff.2 (fun z hz => by have := h z hz; simp; omega)
theorem rngL_all {l : List Pr} {lo hi : Int} (h : ∀ z ∈ l, lo ≤ z.1 ∧ z.1 ≤ hi) : rngL l lo hi = l :=
  List.filter_eq_self.2 (fun z hz => by have := h z hz; simp; omega)
theorem rngL_wrong {l : List Pr} {lo hi : Int} (h : hi < lo) : rngL l lo hi = [] := rngL_none (fun z _ hz => by omega)

theorem rngL_take {l : List Pr} {n : Nat} {q : Pr} (lo hi : Int) (hq : l[n]? = some q) : rngL (l.take (n + 1)) lo hi = rngL (l.take n) lo hi ++ rngL [q] lo hi := by
  have e : l.take (n + 1) = l.take n ++ [q] := by rw [List.take_succ, hq]; rfl
  rw [e, rngL_app]

/-- What the loop keeps. -/
structure BLoop (w wr : World) (out : Value) (ks : List Pr) : Prop where
  row : PRow wr (fun j => j < w.heap.size) out ks
  b : Below w.heap.size w wr
theorem BLoop.push {w wr w1 : World} {out out' : Value} {ks : List Pr} {q : Pr} (h : BLoop w wr out ks)
    (hR : PRow w1 (fun j => j < w.heap.size) out' (ks ++ [q])) (hO : Only (fun j => ¬ (j < w.heap.size)) wr w1) : BLoop w w1 out' (ks ++ [q]) :=
  ⟨hR, h.b.trans (hO.below (fun i hi => Nat.le_of_not_lt hi) h.b.size)⟩

set_option maxRecDepth 100000 in
set_option maxHeartbeats 6400000 in
theorem samep_any (a a2 : Option Addr) (cap cap2 : Nat) (l m : List Pr) (w : World) (h : Prs w a cap l) (h2 : Prs w a2 cap2 m) (B : Bool) (hB : decide (l = m) = B) :
    Calls Try.prog 17 #[.slice a l.length cap, .slice a2 m.length cap2] w fun e w' => e = .returned (.bool B) ∧ Below w.heap.size w w' := by
  by_cases hlen : l.length = m.length
  · have HB := Lib.hid hB
    have HH := Lib.hid h
    have HH2 := Lib.hid h2
    have hc1 := h.1
    have hc2 := h.2.1
    have hc3 := h2.1
    have hc4 := h2.2.1
    have HLEN := Lib.hid hlen
    have hlen' : ((l.length : Int) == (m.length : Int)) = true := by simp [hlen]
    rw [← hlen] at hc3
    rw [← hlen]
    clear h h2 hB hlen
    unfold maxLen at hc2 hc4
    go_enter Try.func17, Try.ntmps17
    go_wp2_with (fail)
    go_loopw [13] (fun i wr => ∃ n : Nat, n ≤ l.length ∧ i = .int .i64 n ∧ (∀ j, j < n → l[j]? = m[j]?) ∧ Below w.heap.size w wr) (fun i _ => l.length - (intOf i).toNat)
    case atStart => exact ⟨0, Nat.zero_le _, rfl, fun j hj => absurd hj (Nat.not_lt_zero j), Below.refl _ _⟩
    case round =>
      obtain ⟨n, hn, rfl, hall, hb⟩ := hrel
      have HALL := Lib.hid hall
      clear hall
      by_cases hlt : n < l.length
      · obtain ⟨q, hq⟩ : ∃ q, l[n]? = some q := ⟨_, List.getElem?_eq_getElem hlt⟩
        obtain ⟨q', hq'⟩ : ∃ q, m[n]? = some q := ⟨_, List.getElem?_eq_getElem (by have := HLEN.out; omega)⟩
        obtain ⟨b, o, rfl, c0, c1⟩ := (HH.out.below hb).2.2.1 n q hq
        obtain ⟨b', o', rfl, d0, d1⟩ := (HH2.out.below hb).2.2.1 n q' hq'
        have HQ := Lib.hid (And.intro hq hq')
        obtain ⟨x0, x1⟩ := q
        obtain ⟨y0, y1⟩ := q'
        dsimp only at c0 c1 d0 d1
        clear hq hq'
        have hn0 : (0 : Int) ≤ (n : Int) := by omega
        have hnl : (n : Int) < (l.length : Int) := by omega
        by_cases he0 : x0 = y0
        · by_cases he1 : x1 = y1
          · subst he0
            subst he1
            go_wp2_with (fail)
            go_quiet (fail)
            go_wp2_with (fail)
            go_roundw
            case rel => exact ⟨n + 1, by omega, by go_num, fun j hj => by
              rcases Nat.lt_succ_iff_lt_or_eq.1 hj with hj | rfl
              · exact HALL.out j hj
              · rw [HQ.out.1, HQ.out.2], below_drewN hb _⟩
            case measure => simp [intOf]; omega
          · subst he0
            have hne : B = false := by
              rw [← HB.out]
              refine decide_eq_false (fun e => he1 ?_)
              subst e
              have := HQ.out.1.symm.trans HQ.out.2
              simp at this
              exact this
            have he1' : (x1 == y1) = false := by simp [he1]
            go_wp2_with (fail)
            go_quiet (fail)
            go_wp2_with (fail)
            go_ret
            exact ⟨by rw [hne]; rfl, below_drewN hb _⟩
        · have hne : B = false := by
            rw [← HB.out]
            refine decide_eq_false (fun e => he0 ?_)
            subst e
            have := HQ.out.1.symm.trans HQ.out.2
            simp at this
            exact this.1
          have he0' : (x0 == y0) = false := by simp [he0]
          go_wp2_with (fail)
          go_quiet (fail)
          go_wp2_with (fail)
          go_ret
          exact ⟨by rw [hne]; rfl, below_drewN hb _⟩
      · obtain rfl : n = l.length := by omega
        have heq : l = m := by
          apply List.ext_getElem?
          intro j
          by_cases hj : j < l.length
          · exact HALL.out j hj
          · rw [List.getElem?_eq_none (by omega), List.getElem?_eq_none (by have := HLEN.out; omega)]
        have hB : B = true := by rw [← HB.out]; exact decide_eq_true heq
        clear heq
        go_wp2_with (fail)
        go_ret
        exact ⟨by rw [hB]; rfl, hb⟩
  · have hne : B = false := by
      rw [← hB]
      exact decide_eq_false (fun e => hlen (by rw [e]))
    have hlen' : ((l.length : Int) == (m.length : Int)) = false := by simp; omega
    subst hne
    have hc2 := h.2.1
    have hc4 := h2.2.1
    clear h h2 hB hlen
    go_enter Try.func17, Try.ntmps17
    go_wp2_with (fail)
    go_ret
    exact ⟨rfl, Below.refl _ _⟩

/-! ### Find -/

/-- How many pairs stand ahead of the first one of that key. -/
def ixN (l : List Pr) (k : Int) : Nat := (l.takeWhile (fun z => z.1 != k)).length
/-- Its place (-1: there is none). -/
def ixL (l : List Pr) (k : Int) : Int := if ixN l k < l.length then (ixN l k : Int) else -1
theorem ixL_at {l : List Pr} {n : Nat} {k v : Int} (hq : l[n]? = some (k, v)) (hno : ∀ x ∈ l.take n, x.1 ≠ k) : ixL l k = n := by
  obtain ⟨hlt, he⟩ := List.getElem?_eq_some_iff.1 hq
  have e : l = l.take n ++ (k, v) :: l.drop (n + 1) := by
    rw [← he, List.getElem_cons_drop, List.take_append_drop]
  have hN : ixN l k = n := by
    unfold ixN
    rw [e, List.takeWhile_append_of_pos (by intro x hx; have := hno x hx; simpa using this), List.takeWhile_cons_of_neg (by simp), List.append_nil, List.length_take]
    omega
  unfold ixL
  rw [hN, if_pos hlt]
theorem ixL_none {l : List Pr} {k : Int} (hno : ∀ x ∈ l, x.1 ≠ k) : ixL l k = -1 := by
  have hN : ixN l k = l.length := by
    unfold ixN
    have := List.takeWhile_append_of_pos (p := fun z : Pr => z.1 != k) (l₁ := l) (l₂ := []) (by intro x hx; have := hno x hx; simpa using this)
    rw [List.append_nil] at this
    rw [this]; simp
  unfold ixL
  rw [hN, if_neg (Nat.lt_irrefl _)]

/-! ### May -/

instance srtDec (l : List Pr) : Decidable (Srt l) := by unfold Srt; infer_instance
theorem adj_srt : ∀ (l : List Pr), (∀ (i : Nat) (a b : Pr), l[i]? = some a → l[i + 1]? = some b → a.1 < b.1) → Srt l := by
  intro l
  induction l with
  | nil => intro _; exact Srt.nil
  | cons q l ih =>
    intro h
    have hl : Srt l := ih (fun i a b ha hb => h (i + 1) a b (by simpa using ha) (by simpa using hb))
    refine List.pairwise_cons.2 ⟨fun x hx => ?_, hl⟩
    cases l with
    | nil => cases hx
    | cons r l =>
      have h0 := h 0 q r rfl rfl
      rcases List.mem_cons.1 hx with rfl | hx
      · exact h0
      · exact Int.lt_trans h0 ((List.pairwise_cons.1 hl).1 x hx)

set_option maxRecDepth 100000 in
set_option maxHeartbeats 6400000 in
theorem rmay_any (a : Option Addr) (cap : Nat) (l : List Pr) (w : World) (h : Prs w a cap l) (B : Bool) (hB : decide (Srt l) = B) :
    Calls Try.prog 57 #[.slice a l.length cap] w fun e w' => e = .returned (.bool B) ∧ Below w.heap.size w w' := by
  have HH := Lib.hid h
  have HB := Lib.hid hB
  have hc1 := h.1
  have hc2 := h.2.1
  clear h hB
  unfold maxLen at hc2
  go_enter Try.func57, Try.ntmps57
  go_wp2_with (fail)
  go_loopw [3] (fun i wr => ∃ n : Nat, n ≤ l.length ∧ i = .int .i64 (n + 1 : Int) ∧ (∀ (j : Nat) (a b : Pr), j < n → l[j]? = some a → l[j + 1]? = some b → a.1 < b.1) ∧ Below w.heap.size w wr) (fun i _ => l.length + 1 - (intOf i).toNat)
  case atStart => exact ⟨0, Nat.zero_le _, rfl, fun j _ _ hj => absurd hj (Nat.not_lt_zero _), Below.refl _ _⟩
  case round =>
    obtain ⟨n, hn, rfl, hall, hb⟩ := hrel
    have HALL := Lib.hid hall
    clear hall
    by_cases hlt : n + 1 < l.length
    · obtain ⟨q, hq⟩ : ∃ q, l[n]? = some q := ⟨_, List.getElem?_eq_getElem (by omega)⟩
      obtain ⟨q', hq'⟩ : ∃ q, l[n + 1]? = some q := ⟨_, List.getElem?_eq_getElem hlt⟩
      obtain ⟨b, o, rfl, c0, _⟩ := (HH.out.below hb).2.2.1 n q hq
      obtain ⟨b', o', e, d0, _⟩ := (HH.out.below hb).2.2.1 (n + 1) q' hq'
      cases e
      obtain ⟨x0, x1⟩ := q
      obtain ⟨y0, y1⟩ := q'
      dsimp only at c0 d0
      have HQ := Lib.hid (And.intro hq hq')
      clear hq hq'
      have hlt' : (n : Int) + 1 < (l.length : Int) := by omega
      have hn0 : (0 : Int) ≤ (n : Int) := by omega
      have hn1 : (0 : Int) ≤ (n : Int) + 1 := by omega
      have hnl : (n : Int) < (l.length : Int) := by omega
      have hw2 : IntKind.i64.wrap ((n : Int) + 1 - 1) = (n : Int) := by rw [IntKind.wrap_i64]; omega
      have ht : ((n : Int) + 1).toNat = n + 1 := by omega
      by_cases hxy : y0 ≤ x0
      · have hy : decide (y0 ≤ x0) = true := decide_eq_true hxy
        have hB : B = false := by
          rw [← HB.out]
          refine decide_eq_false (fun hs => ?_)
          have := hs.at n (n + 1) _ _ (by omega) HQ.out.1 HQ.out.2
          dsimp only at this
          omega
        clear hxy
        go_wp2_with (fail)
        go_quiet (fail)
        go_wp2_with (fail)
        go_ret
        exact ⟨congrArg (fun b : Bool => Ending.returned (.bool b)) hB.symm, below_drewN hb _⟩
      · have hy : decide (y0 ≤ x0) = false := decide_eq_false hxy
        have HL := Lib.hid (show x0 < y0 by omega)
        clear hxy
        go_wp2_with (fail)
        go_quiet (fail)
        go_wp2_with (fail)
        go_roundw
        case rel => exact ⟨n + 1, by omega, by go_num, fun j a b hj ha hb => by
          rcases Nat.lt_succ_iff_lt_or_eq.1 hj with hj | rfl
          · exact HALL.out j a b hj ha hb
          · have h1 := HQ.out.1.symm.trans ha
            have h2 := HQ.out.2.symm.trans hb
            cases h1; cases h2
            exact HL.out, below_drewN hb _⟩
        case measure => simp [intOf]; omega
    · have hge : ¬ (n : Int) + 1 < (l.length : Int) := by omega
      have hB : B = true := by
        rw [← HB.out]
        refine decide_eq_true (adj_srt l (fun i a b ha hb => HALL.out i a b ?_ ha hb))
        have := (List.getElem?_eq_some_iff.1 hb).1
        omega
      go_wp2_with (fail)
      go_ret
      exact ⟨rfl, hb⟩

set_option maxRecDepth 100000 in
set_option maxHeartbeats 6400000 in
theorem lmay_any (a : Option Addr) (cap : Nat) (l : List Pr) (w : World) (h : Prs w a cap l) (B : Bool) (hB : decide (Srt l) = B) :
    Calls Try.prog 55 #[.slice a l.length cap] w fun e w' => e = .returned (.bool B) ∧ Below w.heap.size w w' := by
  have HH := Lib.hid h
  have HB := Lib.hid hB
  have hc1 := h.1
  have hc2 := h.2.1
  clear h hB
  unfold maxLen at hc2
  go_enter Try.func55, Try.ntmps55
  go_wp2_with (fail)
  go_loopw [3] (fun i wr => ∃ n : Nat, n ≤ l.length ∧ i = .int .i64 (n + 1 : Int) ∧ (∀ (j : Nat) (a b : Pr), j < n → l[j]? = some a → l[j + 1]? = some b → a.1 < b.1) ∧ Below w.heap.size w wr) (fun i _ => l.length + 1 - (intOf i).toNat)
  case atStart => exact ⟨0, Nat.zero_le _, rfl, fun j _ _ hj => absurd hj (Nat.not_lt_zero _), Below.refl _ _⟩
  case round =>
    obtain ⟨n, hn, rfl, hall, hb⟩ := hrel
    have HALL := Lib.hid hall
    clear hall
    by_cases hlt : n + 1 < l.length
    · obtain ⟨q, hq⟩ : ∃ q, l[n]? = some q := ⟨_, List.getElem?_eq_getElem (by omega)⟩
      obtain ⟨q', hq'⟩ : ∃ q, l[n + 1]? = some q := ⟨_, List.getElem?_eq_getElem hlt⟩
      obtain ⟨b, o, rfl, c0, _⟩ := (HH.out.below hb).2.2.1 n q hq
      obtain ⟨b', o', e, d0, _⟩ := (HH.out.below hb).2.2.1 (n + 1) q' hq'
      cases e
      obtain ⟨x0, x1⟩ := q
      obtain ⟨y0, y1⟩ := q'
      dsimp only at c0 d0
      have HQ := Lib.hid (And.intro hq hq')
      clear hq hq'
      have hlt' : (n : Int) + 1 < (l.length : Int) := by omega
      have hn0 : (0 : Int) ≤ (n : Int) := by omega
      have hn1 : (0 : Int) ≤ (n : Int) + 1 := by omega
      have hnl : (n : Int) < (l.length : Int) := by omega
      have hw2 : IntKind.i64.wrap ((n : Int) + 1 - 1) = (n : Int) := by rw [IntKind.wrap_i64]; omega
      have ht : ((n : Int) + 1).toNat = n + 1 := by omega
      by_cases hxy : y0 ≤ x0
      · have hy : decide (y0 ≤ x0) = true := decide_eq_true hxy
        have hB : B = false := by
          rw [← HB.out]
          refine decide_eq_false (fun hs => ?_)
          have := hs.at n (n + 1) _ _ (by omega) HQ.out.1 HQ.out.2
          dsimp only at this
          omega
        clear hxy
        go_wp2_with (fail)
        go_quiet (fail)
        go_wp2_with (fail)
        go_ret
        exact ⟨congrArg (fun b : Bool => Ending.returned (.bool b)) hB.symm, below_drewN hb _⟩
      · have hy : decide (y0 ≤ x0) = false := decide_eq_false hxy
        have HL := Lib.hid (show x0 < y0 by omega)
        clear hxy
        go_wp2_with (fail)
        go_quiet (fail)
        go_wp2_with (fail)
        go_roundw
        case rel => exact ⟨n + 1, by omega, by go_num, fun j a b hj ha hb => by
          rcases Nat.lt_succ_iff_lt_or_eq.1 hj with hj | rfl
          · exact HALL.out j a b hj ha hb
          · have h1 := HQ.out.1.symm.trans ha
            have h2 := HQ.out.2.symm.trans hb
            cases h1; cases h2
            exact HL.out, below_drewN hb _⟩
        case measure => simp [intOf]; omega
    · have hge : ¬ (n : Int) + 1 < (l.length : Int) := by omega
      have hB : B = true := by
        rw [← HB.out]
        refine decide_eq_true (adj_srt l (fun i a b ha hb => HALL.out i a b ?_ ha hb))
        have := (List.getElem?_eq_some_iff.1 hb).1
        omega
      go_wp2_with (fail)
      go_ret
      exact ⟨rfl, hb⟩

end Go.Proofs.Ytdhonompnbphlaa
