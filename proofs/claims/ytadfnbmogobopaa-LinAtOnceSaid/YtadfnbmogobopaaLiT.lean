/- Calls that all run at once: the history, its calls, an order that it has. No condition: definitions and lemmas. -/
import Derived.Test.YtadfnbmogobopaaLiH
import Derived.Test.YtadfnbmogobopaaOrI
namespace Go.Proofs.Ytadfnbmogobopaa
open Go.RowKit Go.Maps
set_option linter.all false
set_option maxRecDepth 20000

/-- All begin; all return, the last first. -/
def calA (th : Nat → Int) (f : Nat → OpD) : Nat → List EvD
  | 0 => []
  | n + 1 => calA th f n ++ [⟨th n, false, f n, zAd⟩]
def reA (th : Nat → Int) (f : Nat → OpD) (A : Nat → Ad) : Nat → List EvD
  | 0 => []
  | n + 1 => ⟨th n, true, f n, A n⟩ :: reA th f A n
/-- The calls where those from k on have returned. -/
def LLA (th : Nat → Int) (f : Nat → OpD) (A : Nat → Ad) (n k : Nat) : List ClD := (List.range n).map (fun i => if i < k then ⟨th i, (i : Int), -1, f i, zAd⟩ else ⟨th i, (i : Int), 2 * (n : Int) - 1 - i, f i, A i⟩)
section
variable {th : Nat → Int} {f : Nat → OpD} {A : Nat → Ad} {b : List Pr}
theorem calA_len : ∀ n, (calA th f n).length = n
  | 0 => rfl
  | n + 1 => by simp only [calA, List.length_append, calA_len n]; simp
theorem reA_len : ∀ n, (reA th f A n).length = n
  | 0 => rfl
  | n + 1 => by simp only [reA, List.length_cons, reA_len n]
theorem LLA_len (n k : Nat) : (LLA th f A n k).length = n := by simp [LLA]
theorem LLA_get {n k i : Nat} (h : i < n) : (LLA th f A n k)[i]? = some (if i < k then ⟨th i, (i : Int), -1, f i, zAd⟩ else ⟨th i, (i : Int), 2 * (n : Int) - 1 - i, f i, A i⟩) := by
  unfold LLA
  rw [List.getElem?_map, List.getElem?_range h]; rfl
theorem LLA_at {n i : Nat} (h : i < n) : (LLA th f A n 0).getD i zCl = ⟨th i, (i : Int), 2 * (n : Int) - 1 - i, f i, A i⟩ := by
  rw [List.getD_eq_getElem?_getD, LLA_get h, if_neg (Nat.not_lt_zero i)]; rfl
theorem calA_is {L : Nat} (hth : ∀ i, i < L → okT (th i)) (hin : ∀ i j, i < L → j < L → th i = th j → i = j) : ∀ n, n ≤ L → (∀ i, i < n → okOp (f i).c) →
    ∃ s, mtch (calA th f n) = some s ∧ s.w.length = 6 ∧ s.l = (List.range n).map (fun i => (⟨th i, (i : Int), -1, f i, zAd⟩ : ClD)) ∧ (∀ i, i < n → s.x (th i) = i + 1) ∧ ∀ t, okT t → (∀ i, i < n → th i ≠ t) → s.x t = 0
  | 0, _, _ => ⟨Mt.z, rfl, rfl, rfl, fun i hi => by omega, fun t ht _ => zeros_x ht⟩
  | n + 1, hn, hok => by
    obtain ⟨s, h1, h2, h3, h4, h5⟩ := calA_is hth hin n (by omega) (fun i hi => hok i (by omega))
    have ht := hth n (by omega)
    have h0 : s.x (th n) = 0 := h5 _ ht (fun i hi e => by have := hin i n (by omega) (by omega) e; omega)
    have h6 := snoc_call h1 (t := th n) (o := f n) ht (hok n (by omega))
    rw [if_pos h0] at h6
    have hl : s.l.length = n := by rw [h3]; simp
    refine ⟨_, h6, ?_, ?_, fun i hi => ?_, fun t ht2 hne => ?_⟩
    · show (s.w.set _ _).length = 6
      rw [List.length_set]; exact h2
    · show s.l ++ [(⟨th n, ((calA th f n).length : Int), -1, f n, zAd⟩ : ClD)] = _
      rw [h3, calA_len, List.range_succ, List.map_append]; rfl
    · by_cases e : i = n
      · subst e
        have := x_set_same h2 ht (s.l.length + 1) (s.l ++ [(⟨th i, ((calA th f i).length : Int), -1, f i, zAd⟩ : ClD)])
        rw [hl] at this
        show Mt.x ⟨s.w.set (th i).toNat (s.l.length + 1), _⟩ (th i) = _
        rw [hl]
        exact this
      · have hne : th i ≠ th n := fun e2 => e (hin i n (by omega) (by omega) e2)
        exact (x_set_other ht (hth i (by omega)) hne _ _).trans (h4 i (by omega))
    · exact (x_set_other ht ht2 (fun e => hne n (by omega) e.symm) _ _).trans (h5 t ht2 (fun i hi => hne i (by omega)))
theorem reA_is {n : Nat} (hth : ∀ i, i < n → okT (th i)) (hin : ∀ i j, i < n → j < n → th i = th j → i = j) : ∀ (k : Nat) (P : List EvD) (s : Mt), k ≤ n → mtch P = some s → P.length = 2 * n - k → s.w.length = 6 → s.l = LLA th f A n k → (∀ i, i < k → s.x (th i) = i + 1) →
    ∃ s', mtch (P ++ reA th f A k) = some s' ∧ s'.l = LLA th f A n 0
  | 0, P, s, _, h1, _, _, h4, _ => ⟨s, by simpa [reA] using h1, h4⟩
  | k + 1, P, s, hk, h1, h2, h3, h4, h5 => by
    have ht := hth k (by omega)
    have h6 := snoc_ret h1 (t := th k) (o := f k) (a := A k) ht
    have hx := h5 k (by omega)
    have hg : s.l[k]? = some ⟨th k, (k : Int), -1, f k, zAd⟩ := by rw [h4, LLA_get (by omega), if_pos (by omega)]
    have hc := c_at hg
    rw [hx, hc, if_pos ⟨Nat.succ_pos k, rfl⟩] at h6
    have e : P ++ reA th f A (k + 1) = (P ++ [⟨th k, true, f k, A k⟩]) ++ reA th f A k := by simp [reA]
    rw [e]
    refine reA_is hth hin k _ _ (by omega) h6 (by rw [List.length_append, h2]; simp; omega) ?_ ?_ (fun i hi => ?_)
    · show (s.w.set _ _).length = 6
      rw [List.length_set]; exact h3
    · show s.l.set (s.x (th k) - 1) { s.c (s.x (th k)) with g := (P.length : Int), a := A k } = _
      rw [hx, hc, Nat.add_sub_cancel, h2, h4]
      apply List.ext_getElem?
      intro i
      rcases Nat.lt_or_ge i n with hi | hi
      · rw [List.getElem?_set, LLA_len, LLA_get hi, LLA_get hi]
        by_cases e : k = i
        · subst e
          rw [if_pos rfl, if_pos hi, if_neg (by omega), show ((2 * n - (k + 1) : Nat) : Int) = 2 * (n : Int) - 1 - (k : Nat) by omega]
        · rw [if_neg e]
          by_cases h : i < k
          · rw [if_pos h, if_pos (by omega)]
          · rw [if_neg h, if_neg (by omega)]
      · rw [List.getElem?_eq_none (by rw [List.length_set, LLA_len]; exact hi), List.getElem?_eq_none (by rw [LLA_len]; exact hi)]
    · have hne : th i ≠ th k := fun e2 => by have := hin i k (by omega) (by omega) e2; omega
      exact (x_set_other ht (hth i (by omega)) hne _ _).trans (h5 i (by omega))
theorem stt_A (n : Nat) : ∀ i, i ≤ n → stt b (LLA th f A n 0) i = stN b f i
  | 0, _ => rfl
  | i + 1, h => by
    show doP (stt b (LLA th f A n 0) i) _ _ _ = doP (stN b f i) _ _ _
    rw [stt_A n i (by omega), LLA_at (by omega)]
/-- Calls that all run at once, and were told what one map tells, have an order. -/
theorem atA_ord {n : Nat} (hb : Srt b) (hth : ∀ i, i < n → okT (th i)) (hin : ∀ i j, i < n → j < n → th i = th j → i = j) (hn : n ≤ 16) (hok : ∀ i, i < n → okOp (f i).c) (he : ∀ i, i < n → (A i).err = 0) (ha : ∀ i, i < n → anN b f i = A i) :
    okF b (calA th f n ++ reA th f A n) ∧ ∃ l, ordR b (calA th f n ++ reA th f A n) l := by
  obtain ⟨s0, h1, h2, h3, h4, _⟩ := calA_is hth hin n (Nat.le_refl _) hok
  have h3' : s0.l = LLA th f A n n := by
    rw [h3]
    unfold LLA
    exact List.map_congr_left (fun i hi => by rw [if_pos (List.mem_range.1 hi)])
  obtain ⟨s, hm, hl⟩ := reA_is (A := A) hth hin n _ s0 (Nat.le_refl _) h1 (by rw [calA_len]; omega) h2 h3' h4
  have hlen : s.l.length = n := by rw [hl, LLA_len]
  refine ⟨⟨hb, s, hm, by omega⟩, upTo n, hb, s, hm, ?_⟩
  have hup : dn s.l (upTo n) = s.l := by rw [← hlen]; exact dn_up s.l
  refine ⟨?_, ?_, ?_⟩
  · rw [← hlen]
    refine nms_up (fun c hc => ?_)
    rw [hl] at hc
    unfold LLA at hc
    obtain ⟨i, hi, rfl⟩ := List.mem_map.1 hc
    rw [if_neg (Nat.not_lt_zero i)]
    exact he i (List.mem_range.1 hi)
  · rw [hup, upTo_len]
    intro i j hij hj hbf
    rw [hl, LLA_at hj, LLA_at (by omega)] at hbf
    unfold bef at hbf
    dsimp only at hbf
    omega
  · rw [hup, upTo_len]
    intro i hi
    unfold tel
    rw [hl, stt_A n i (by omega), LLA_at hi]
    intro _
    exact ha i hi
theorem atA_mem {n : Nat} {e : EvD} (h : e ∈ calA th f n ++ reA th f A n) : ∃ i, i < n ∧ e.o = f i ∧ (e.a = zAd ∨ e.a = A i) := by
  rcases List.mem_append.1 h with h | h
  · induction n with
    | zero => cases h
    | succ n ih =>
      rcases List.mem_append.1 h with h | h
      · obtain ⟨i, h1, h2⟩ := ih (List.mem_append.2 (.inl h)) h
        exact ⟨i, by omega, h2⟩
      · obtain rfl := List.mem_singleton.1 h
        exact ⟨n, by omega, rfl, .inl rfl⟩
  · induction n with
    | zero => cases h
    | succ n ih =>
      rcases List.mem_cons.1 h with rfl | h
      · exact ⟨n, by omega, rfl, .inr rfl⟩
      · obtain ⟨i, h1, h2⟩ := ih (List.mem_append.2 (.inr h)) h
        exact ⟨i, by omega, h2⟩
end
theorem ERow.src {W : World} {Q : Nat → Prop} {a : Option Addr} {n cap : Nat} {M : List RE} (h : ERow W Q (.slice a n cap) M) : Source W (.slice a n cap) M.length (cellsE M) := by
  cases M with
  | nil =>
    rcases h.row.2 with ⟨e, _⟩ | ⟨g, c, cur, e, _⟩
    · exact .inl ⟨e, rfl, rfl⟩
    · simp only [Value.slice.injEq] at e
      obtain ⟨rfl, rfl, rfl⟩ := e
      exact .inr ⟨_, _, rfl, fun j u hj => by simp [cellsE] at hj⟩
  | cons m l =>
    obtain ⟨g, c, e, _⟩ := row_at h.row (by simp)
    simp only [Value.slice.injEq] at e
    obtain ⟨rfl, rfl, rfl⟩ := e
    refine .inr ⟨_, _, rfl, fun j u hj => ?_⟩
    have hjl : j < (m :: l).length * 12 := by rw [← cellsE_len]; exact (List.getElem?_eq_some_iff.1 hj).1
    rw [add_lit, Nat.zero_add, h.row.cellAt _ hjl]
    exact hj
/-- One event's box is a row of one's own. -/
theorem ERow.one {W : World} {Q : Nat → Prop} {m : RE} {cs : Array Value} (hc : cs.toList = cellE m) (hQ : ¬ Q W.heap.size) (hp : Prs W m.a m.c m.e.a.ps) (hb : m.e.a.ps ≠ [] → ∀ b o sp, m.a = some ⟨b, o, sp⟩ → ¬ Q b ∧ b < W.heap.size) :
    ERow (W.alloc (.cells cs 36)) Q (.slice (some ⟨W.heap.size, 0, none⟩) 1 1) [m] := by
  have h := World.ownsRow_lit (base := 0) (e := 36) (size := 12) W cs 1 (Nat.zero_le _) (by unfold maxLen; omega) (by rw [← Array.length_toList, hc]; rfl)
  refine ⟨?_, fun k hk => ?_, fun x hx => ?_⟩
  · have e : cellsE [m] = cs.toList := by rw [hc]; simp [cellsE]
    rw [e]
    exact h
  · simp [Value.ownBlock] at hk
    rw [← hk]; exact hQ
  · obtain rfl := List.mem_singleton.1 hx
    refine ⟨hp.below (pal _), fun hne b o sp e => ⟨(hb hne b o sp e).1, fun hh => ?_⟩⟩
    have h1 := (hb hne b o sp e).2
    simp [Value.ownBlock] at hh
    omega
theorem prs_lt {w : World} {p : List Pr} {pa : Option Addr} {pc : Nat} (hp : Prs w pa pc p) (hne : p ≠ []) {b o : Nat} {sp : Option Nat} (e : pa = some ⟨b, o, sp⟩) : b < w.heap.size := by
  obtain ⟨q, l, rfl⟩ := List.exists_cons_of_ne_nil hne
  obtain ⟨b', o', e', c0, _⟩ := hp.2.2.1 0 q rfl
  rw [e] at e'; cases e'
  exact World.block_lt_of_cell? w _ c0
/-- Beginnings and returns being made, and the pairs behind them. -/
structure LpA (w : World) (Rn : List Pr) (Hc Hr : List EvD) (am : Option Addr) (cm : Nat) (ah : Option Addr) (ch : Nat) (ar : Option Addr) (cr n : Nat) (Mc Mr : List RE) (wr : World) : Prop where
  er : ERow wr (fun _ => False) (.slice ah n ch) Mc
  em : Mc.map (fun m => m.e) = Hc
  rr : ERow wr (fun j => (Value.slice ah n ch).ownBlock = some j) (.slice ar n cr) Mr
  rm : Mr.map (fun m => m.e) = Hr
  pr : PRow wr (fun j => (Value.slice ah n ch).ownBlock = some j) (.slice am Rn.length cm) Rn
  ow : ∀ k, (Value.slice ah n ch).ownBlock = some k → w.heap.size ≤ k
  be : Below w.heap.size w wr
section
variable {w wr w' W : World} {Rn R' : List Pr} {Hc Hr : List EvD} {am ah ar am' ao : Option Addr} {cm ch cr n cm' n' cap : Nat} {Mc Mr ms : List RE}
theorem LpA.keep (h : LpA w Rn Hc Hr am cm ah ch ar cr n Mc Mr wr) (hb : Below wr.heap.size wr w') : LpA w Rn Hc Hr am cm ah ch ar cr n Mc Mr w' :=
  ⟨h.er.keep hb, h.em, h.rr.keep hb, h.rm, h.pr.below hb, h.ow, pb2 h.be hb⟩
theorem LpA.other (h : LpA w Rn Hc Hr am cm ah ch ar cr n Mc Mr W) {Sx : Nat → Prop} {a3 : Option Addr} {n3 c3 : Nat} {l3 : List Pr} (hp : PRow W Sx (.slice a3 n3 c3) l3) (hS : ∀ k, (Value.slice ah n ch).ownBlock = some k → Sx k)
    (ho : Only (fun k => (Value.slice ah n ch).ownBlock = some k) W w') (hk : ∀ k, (Value.slice ao n' cap).ownBlock = some k → (Value.slice ah n ch).ownBlock = some k ∨ W.heap.size ≤ k) :
    PRow w' (fun j => (Value.slice ao n' cap).ownBlock = some j) (.slice a3 n3 c3) l3 := by
  refine ((hp.sub (S' := fun j => Sx j ∨ W.heap.size ≤ j) (fun k hk x => x.elim (fun y => y) (fun y => by omega))).onlyC ho (fun k hk => .inl (hS k hk))).sub (fun k _ e => ?_)
  rcases hk k e with x | x
  · exact .inl (hS k x)
  · exact .inr x
/-- Between the two appends. -/
structure LpB (w : World) (R' : List Pr) (Hc Hr : List EvD) (am : Option Addr) (cm : Nat) (ah : Option Addr) (ch : Nat) (ar : Option Addr) (cr n n' : Nat) (Mc Mr : List RE) (wr : World) : Prop where
  er : ERow wr (fun _ => False) (.slice ah n' ch) Mc
  em : Mc.map (fun m => m.e) = Hc
  rr : ERow wr (fun j => (Value.slice ah n' ch).ownBlock = some j) (.slice ar n cr) Mr
  rm : Mr.map (fun m => m.e) = Hr
  pr : PRow wr (fun j => (Value.slice ah n' ch).ownBlock = some j) (.slice am R'.length cm) R'
  ow : ∀ k, (Value.slice ah n' ch).ownBlock = some k → w.heap.size ≤ k
  be : Below w.heap.size w wr
theorem LpA.push (h : LpA w Rn Hc Hr am cm ah ch ar cr n Mc Mr W) {Sx : Nat → Prop} (hp : PRow W Sx (.slice am' R'.length cm') R') (hS : ∀ k, (Value.slice ah n ch).ownBlock = some k → Sx k)
    (he : ERow w' (fun _ => False) (.slice ao n' cap) (Mc ++ ms)) (ho : Only (fun k => (Value.slice ah n ch).ownBlock = some k) W w') (hk : ∀ k, (Value.slice ao n' cap).ownBlock = some k → (Value.slice ah n ch).ownBlock = some k ∨ W.heap.size ≤ k) :
    LpB w R' (Hc ++ ms.map (fun m => m.e)) Hr am' cm' ao cap ar cr n n' (Mc ++ ms) Mr w' := by
  refine ⟨he, by rw [List.map_append, h.em], ?_, h.rm, ?_, fun k e => ?_, h.be.trans (ho.below h.ow h.be.size)⟩
  · have h1 := h.rr.sub (Q' := fun j => (Value.slice ah n ch).ownBlock = some j ∨ W.heap.size ≤ j) (fun k hk x => x.elim (fun y => y) (fun y => by omega))
    have h2 := h1.only ho (fun k hk => .inl hk)
    exact h2.sub (fun k _ e => hk k e)
  · refine ((hp.sub (S' := fun j => Sx j ∨ W.heap.size ≤ j) (fun k hk x => x.elim (fun y => y) (fun y => by omega))).onlyC ho (fun k hk => .inl (hS k hk))).sub (fun k _ e => ?_)
    rcases hk k e with x | x
    · exact .inl (hS k x)
    · exact .inr x
  · rcases hk k e with x | x
    · exact h.ow k x
    · exact Nat.le_trans h.be.size x
theorem LpB.keep {nn : Nat} (h : LpB w R' Hc Hr am cm ah ch ar cr n nn Mc Mr wr) (hb : Below wr.heap.size wr w') : LpB w R' Hc Hr am cm ah ch ar cr n nn Mc Mr w' :=
  ⟨h.er.keep hb, h.em, h.rr.keep hb, h.rm, h.pr.below hb, h.ow, pb2 h.be hb⟩
theorem LpB.push {g : Nat} (h : LpB w R' Hc Hr am cm ah ch ar cr n n' Mc Mr wr) (hb : Below wr.heap.size wr W) (hg : wr.heap.size ≤ g) (he : ERow w' (fun j => (Value.slice ah n' ch).ownBlock = some j) (.slice ao n' cap) (ms ++ Mr)) (ho : Only (fun k => (Value.slice (some ⟨g, 0, none⟩) 1 1).ownBlock = some k) W w') :
    LpA w R' Hc (ms.map (fun m => m.e) ++ Hr) am cm ah ch ao cap n' Mc (ms ++ Mr) w' := by
  have hx : ∀ k, (Value.slice (some ⟨g, 0, none⟩) 1 1).ownBlock = some k → wr.heap.size ≤ k := fun k e => by simp [Value.ownBlock] at e; omega
  have hbw : Below wr.heap.size wr w' := hb.trans (ho.below hx hb.size)
  exact ⟨h.er.keep hbw, h.em, he, by rw [List.map_append, h.rm], h.pr.below hbw, h.ow, pb2 h.be hbw⟩
theorem LpB.own {nn : Nat} (h : LpB w R' Hc Hr am cm ah ch ar cr n nn Mc Mr wr) : ∀ k, (Value.slice ah nn ch).ownBlock = some k → k < wr.heap.size := fun k hk => (h.er.row.lt k hk).2
theorem LpB.one {nn : Nat} (h : LpB w R' Hc Hr am cm ah ch ar cr n nn Mc Mr wr) {m : RE} {cs : Array Value} (hc : cs.toList = cellE m) (hA : PRow wr (fun j => (Value.slice ah nn ch).ownBlock = some j) (.slice m.a m.e.a.ps.length m.c) m.e.a.ps) :
    ERow (wr.alloc (.cells cs 36)) (fun j => (Value.slice ah nn ch).ownBlock = some j) (.slice (some ⟨wr.heap.size, 0, none⟩) 1 1) [m] :=
  ERow.one hc (fun x => absurd (h.own _ x) (Nat.lt_irrefl _)) (hA.prs rfl) (fun hne b o sp e => ⟨prow_b hA hne e, prs_lt (hA.prs rfl) hne e⟩)
theorem LpB.pre {nn : Nat} (h : LpB w R' Hc Hr am cm ah ch ar cr n nn Mc Mr wr) (o : Obj) : ∀ m ∈ Mr, Prs (wr.alloc o) m.a m.c m.e.a.ps ∧ (m.e.a.ps ≠ [] → ∀ b o sp, m.a = some ⟨b, o, sp⟩ → ¬ (fun j => (Value.slice ah nn ch).ownBlock = some j) b ∧ (Value.slice (some ⟨wr.heap.size, 0, none⟩) 1 1).ownBlock ≠ some b) := fun m hm => by
  have hp := h.rr.prs m hm
  refine ⟨hp.1.below (pal _), fun hne b o sp e => ⟨(hp.2 hne b o sp e).1, fun hh => ?_⟩⟩
  have h1 := prs_lt hp.1 hne e
  simp [Value.ownBlock] at hh
  omega
theorem LpA.pre (h : LpA w Rn Hc Hr am cm ah ch ar cr n Mc Mr wr) : ∀ m ∈ Mr, Prs wr m.a m.c m.e.a.ps ∧ (m.e.a.ps ≠ [] → ∀ b o sp, m.a = some ⟨b, o, sp⟩ → ¬ (fun _ => False) b ∧ (Value.slice ah n ch).ownBlock ≠ some b) := fun m hm => by
  have hp := h.rr.prs m hm
  exact ⟨hp.1, fun hne b o sp e => ⟨fun x => x, (hp.2 hne b o sp e).1⟩⟩
theorem LpA.lens (h : LpA w Rn Hc Hr am cm ah ch ar cr n Mc Mr wr) : n = Mc.length ∧ n = Mr.length := ⟨h.er.ns.1, h.rr.ns.1⟩
end
end Go.Proofs.Ytadfnbmogobopaa
