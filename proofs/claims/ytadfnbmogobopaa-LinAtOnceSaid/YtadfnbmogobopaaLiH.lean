/- Calls one after the other, and all at once: the history, its calls, whether it has an order. No condition: definitions and lemmas. -/
import Derived.Test.YtadfnbmogobopaaLiF
import Derived.Test.YtadfnbmogobopaaLrD
namespace Go.Proofs.Ytadfnbmogobopaa
open Go.RowKit Go.Maps
set_option linter.all false
set_option maxRecDepth 20000

theorem doA_err {l : List Pr} (hs : Srt l) {c : Int} (ho : okOp c) (k h : Int) : (doA l c k h).err = 0 := by
  unfold doA
  rw [if_neg (fun x => x ⟨hs, ho⟩)]
  split
  · rfl
  split
  · rfl
  split
  · rfl
  split
  · cases l[0]? <;> rfl
  · cases l[l.length - 1]? <;> rfl
/-- Pairs behind n operations; what the nth is told. -/
def stN (b : List Pr) (f : Nat → OpD) : Nat → List Pr
  | 0 => b
  | n + 1 => doP (stN b f n) (f n).c (f n).k (f n).v
def anN (b : List Pr) (f : Nat → OpD) (n : Nat) : Ad := doA (stN b f n) (f n).c (f n).k (f n).h
theorem stN_s {b : List Pr} (h : Srt b) (f : Nat → OpD) : ∀ n, Srt (stN b f n)
  | 0 => h
  | n + 1 => doP_s (stN_s h f n) _ _ _
theorem stN_le (b : List Pr) (f : Nat → OpD) : ∀ n, (stN b f n).length ≤ b.length + n
  | 0 => Nat.le_refl _
  | n + 1 => by
    have h1 := stN_le b f n
    have h2 := doP_le (stN b f n) (f n).c (f n).k (f n).v
    show (doP _ _ _ _).length ≤ _
    omega
/-- One after the other. -/
def hiG (th : Nat → Int) (f : Nat → OpD) (A : Nat → Ad) : Nat → List EvD
  | 0 => []
  | n + 1 => hiG th f A n ++ [⟨th n, false, f n, zAd⟩, ⟨th n, true, f n, A n⟩]
def caG (th : Nat → Int) (f : Nat → OpD) (A : Nat → Ad) (n : Nat) : List ClD := (List.range n).map (fun i => ⟨th i, ((2 * i : Nat) : Int), ((2 * i + 1 : Nat) : Int), f i, A i⟩)
section
variable {th : Nat → Int} {f : Nat → OpD} {A : Nat → Ad} {b : List Pr}
theorem hiG_len : ∀ n, (hiG th f A n).length = 2 * n
  | 0 => rfl
  | n + 1 => by simp only [hiG, List.length_append, hiG_len n]; simp; omega
theorem caG_len (n : Nat) : (caG th f A n).length = n := by simp [caG]
theorem caG_at {n i : Nat} (h : i < n) : (caG th f A n).getD i zCl = ⟨th i, ((2 * i : Nat) : Int), ((2 * i + 1 : Nat) : Int), f i, A i⟩ := by
  unfold caG
  rw [List.getD_eq_getElem?_getD, List.getElem?_map, List.getElem?_range h]; rfl
theorem zeros_x {l : List ClD} {t : Int} (ht : okT t) : Mt.x ⟨[0, 0, 0, 0, 0, 0], l⟩ t = 0 := by
  unfold Mt.x
  have := toNat_lt ht
  match t.toNat, this with
  | 0, _ | 1, _ | 2, _ | 3, _ | 4, _ | 5, _ => rfl
theorem zeros_set {t : Int} (ht : okT t) (v : Nat) : (([0, 0, 0, 0, 0, 0] : List Nat).set t.toNat v).set t.toNat 0 = [0, 0, 0, 0, 0, 0] := by
  have := toNat_lt ht
  match t.toNat, this with
  | 0, _ | 1, _ | 2, _ | 3, _ | 4, _ | 5, _ => rfl
theorem hiG_is (hth : ∀ i, okT (th i)) : ∀ n, (∀ i, i < n → okOp (f i).c) → mtch (hiG th f A n) = some ⟨[0, 0, 0, 0, 0, 0], caG th f A n⟩
  | 0, _ => rfl
  | n + 1, hok => by
    have ih := hiG_is hth n (fun i hi => hok i (by omega))
    have e : hiG th f A (n + 1) = (hiG th f A n ++ [⟨th n, false, f n, zAd⟩]) ++ [⟨th n, true, f n, A n⟩] := by simp [hiG]
    have h1 := snoc_call ih (t := th n) (o := f n) (hth n) (hok n (by omega))
    rw [if_pos (zeros_x (hth n))] at h1
    have hx : (Mt.beg ⟨[0, 0, 0, 0, 0, 0], caG th f A n⟩ (hiG th f A n).length ⟨th n, false, f n, zAd⟩).x (th n) = n + 1 := by
      have := x_set_same (s := ⟨[0, 0, 0, 0, 0, 0], caG th f A n⟩) rfl (hth n) ((caG th f A n).length + 1) (caG th f A n ++ [⟨th n, ((hiG th f A n).length : Int), -1, f n, zAd⟩])
      rw [caG_len] at this
      unfold Mt.beg
      dsimp only
      rw [caG_len]
      exact this
    have hc : (Mt.beg ⟨[0, 0, 0, 0, 0, 0], caG th f A n⟩ (hiG th f A n).length ⟨th n, false, f n, zAd⟩).c (n + 1) = ⟨th n, ((hiG th f A n).length : Int), -1, f n, zAd⟩ := by
      refine c_at ?_
      show (caG th f A n ++ [_])[n]? = _
      rw [List.getElem?_append_right (by rw [caG_len]; exact Nat.le_refl _), caG_len, Nat.sub_self]
      rfl
    have h2 := snoc_ret h1 (t := th n) (o := f n) (a := A n) (hth n)
    rw [hx, hc, if_pos ⟨Nat.succ_pos n, rfl⟩] at h2
    rw [e, h2]
    unfold Mt.ret
    dsimp only
    rw [hx, hc]
    unfold Mt.beg
    dsimp only
    rw [zeros_set (hth n), Nat.add_sub_cancel]
    congr 2
    have e2 : (caG th f A n ++ [(⟨th n, ((hiG th f A n).length : Int), -1, f n, zAd⟩ : ClD)]).set n { (⟨th n, ((hiG th f A n).length : Int), -1, f n, zAd⟩ : ClD) with g := ((hiG th f A n ++ [(⟨th n, false, f n, zAd⟩ : EvD)]).length : Int), a := A n } = caG th f A n ++ [⟨th n, ((hiG th f A n).length : Int), ((hiG th f A n ++ [(⟨th n, false, f n, zAd⟩ : EvD)]).length : Int), f n, A n⟩] := by
      rw [List.set_append_right _ _ (by rw [caG_len]; exact Nat.le_refl _), caG_len, Nat.sub_self]
      rfl
    rw [e2, List.length_append, hiG_len]
    unfold caG
    rw [List.range_succ, List.map_append]
    rfl
theorem caG_slo (n : Nat) : slo (caG th f A n) := fun i h0 hi => by
  rw [caG_len] at hi
  rw [caG_at (i := i - 1) (by omega), caG_at hi]
  show (0 : Int) ≤ ((2 * (i - 1) + 1 : Nat) : Int) ∧ ((2 * (i - 1) + 1 : Nat) : Int) < ((2 * i : Nat) : Int)
  omega
theorem caG_ovr (n : Nat) : ovr (caG th f A n) := fun c hc => by
  unfold caG at hc
  obtain ⟨i, _, rfl⟩ := List.mem_map.1 hc
  exact Int.natCast_nonneg _
theorem stt_stN (n : Nat) : ∀ i, i ≤ n → stt b (caG th f A n) i = stN b f i
  | 0, _ => rfl
  | i + 1, h => by
    show doP (stt b (caG th f A n) i) _ _ _ = doP (stN b f i) _ _ _
    rw [stt_stN n i (by omega), caG_at (by omega)]
theorem tls_G (n : Nat) : tls b (caG th f A n) n ↔ ∀ i, i < n → anN b f i = A i := by
  constructor
  · intro h i hi
    have := h i hi
    unfold tel at this
    rw [stt_stN n i (by omega), caG_at hi] at this
    exact this (Int.natCast_nonneg _)
  · intro h i hi
    unfold tel
    rw [stt_stN n i (by omega), caG_at hi]
    intro _
    exact h i hi
/-- It has an order just if each was told what one map tells; and then that one alone. -/
theorem hiG_ord (hb : Srt b) (hth : ∀ i, okT (th i)) (n : Nat) (hok : ∀ i, i < n → okOp (f i).c) (he : ∀ i, i < n → (A i).err = 0) :
    (ordR b (hiG th f A n) (upTo n) ↔ ∀ i, i < n → anN b f i = A i) ∧ ∀ l, ordR b (hiG th f A n) l → l = upTo n := by
  have hm := hiG_is (A := A) hth n hok
  have h := solo_up hb hm (caG_slo n) (caG_ovr n) (fun i hi => by
    have hi2 : i < n := by
      have := caG_len (th := th) (f := f) (A := A) n
      dsimp only at hi
      omega
    dsimp only
    rw [caG_at hi2]
    exact he i hi2)
  dsimp only at h
  rw [caG_len] at h
  exact ⟨h.1.trans (tls_G n), h.2.2⟩
theorem hiG_okF (hb : Srt b) (hth : ∀ i, okT (th i)) (n : Nat) (hok : ∀ i, i < n → okOp (f i).c) : okF b (hiG th f A n) ↔ n ≤ 16 := by
  have hm := hiG_is (A := A) hth n hok
  constructor
  · rintro ⟨_, s, h, h2⟩
    rw [hm] at h; cases h
    rwa [caG_len] at h2
  · intro h
    exact ⟨hb, _, hm, by rw [caG_len]; exact h⟩
theorem hiG_mem {n : Nat} {e : EvD} (h : e ∈ hiG th f A n) : ∃ i, i < n ∧ e.o = f i ∧ (e.a = zAd ∨ e.a = A i) := by
  induction n with
  | zero => cases h
  | succ n ih =>
    rcases List.mem_append.1 h with h | h
    · obtain ⟨i, h1, h2, h3⟩ := ih h
      exact ⟨i, by omega, h2, h3⟩
    · simp at h
      rcases h with rfl | rfl
      · exact ⟨n, by omega, rfl, .inl rfl⟩
      · exact ⟨n, by omega, rfl, .inr rfl⟩
end
/-- A pair that is told stands in the map. -/
theorem anN_ps (b : List Pr) (f : Nat → OpD) (n : Nat) : (anN b f n).ps.length ≤ (stN b f n).length := by
  unfold anN doA
  split
  · exact Nat.zero_le _
  split
  · exact Nat.zero_le _
  split
  · show (rngL _ _ _).length ≤ _
    unfold rngL
    exact List.length_filter_le _ _
  split
  · exact Nat.zero_le _
  split
  · cases (stN b f n)[0]? <;> exact Nat.zero_le _
  · cases (stN b f n)[(stN b f n).length - 1]? <;> exact Nat.zero_le _
section
variable {w : World} {ops : Array Oper} {o : Oper} {a : Act} {K : Act → World → Prop} {Q : Exit → Act → World → Prop} {E : Prop}
/-- Events are appended onto a row of one's own, in the text's order. -/
theorem wpList_evs {rest : List Oper} (hg : o.guard = none) (s x : Operand) (hop : o.op = Op.call { callee := Callee.builtin Builtin.append, args := #[s, x], argTypes := #[23, 23] })
    (Qs : Nat → Prop) (v : Value) (M ms : List RE) (hs : a.eval s = v) (h : ERow w Qs v M) (hQ : ∀ k, Qs k → k < w.heap.size)
    (hp : ∀ m ∈ ms, Prs w m.a m.c m.e.a.ps ∧ (m.e.a.ps ≠ [] → ∀ b o sp, m.a = some ⟨b, o, sp⟩ → ¬ Qs b ∧ v.ownBlock ≠ some b))
    (xv : Value) (hx : a.eval x = xv) (hsrc : Source w xv ms.length (cellsE ms)) (hl : M.length + ms.length ≤ 100000) (n : Nat) (hn : M.length + ms.length = n)
    (H : ∀ ao cap w', cap ≤ maxLen → n ≤ cap → ERow w' Qs (.slice ao n cap) (M ++ ms) → Only (fun k => v.ownBlock = some k) w w' → (∀ k, (Value.slice ao n cap).ownBlock = some k → v.ownBlock = some k ∨ w.heap.size ≤ k) → wpList Try.prog ops Q rest (a.put o.dst (.slice ao n cap)) w') :
    wpList Try.prog ops Q (o :: rest) a w := by
  subst hn
  obtain ⟨i, hi, hz, hs1, hs2⟩ := info_parts infoEvent
  refine wpList_own_append hg s x 23 hop 36 i _ 12 112 Try.underlying23 hi hz hs1 hs2 rfl (by decide) v M.length (cellsE M) hs h.row xv ms.length (cellsE ms) hx hsrc (cellsE_len ms) (fun u hu => cellsE_one ms u hu) (by unfold maxLen; omega) (by omega) ?_
  intro v' w' hown hgr hk
  obtain ⟨ao, cap, rfl, h1, h2, h3, h4⟩ := evs_post h hQ hp hown hgr hk
  exact H ao cap w' h1 h2 h3 h4 hk
end
/-- Two events' box is what an append takes. -/
theorem src_ev2 {g : Nat} {W : World} {m m' : RE} (h : Bq W g (cellE m ++ cellE m')) : Source W (.slice (some ⟨g, 0, none⟩) 2 2) [m, m'].length (cellsE [m, m']) :=
  .inr ⟨_, _, rfl, fun j u hj => by
    rw [show (⟨g, 0, none⟩ : Addr).add j = ⟨g, j, none⟩ from by unfold Addr.add; split <;> simp_all]
    refine h.at_ j u ?_
    simpa [cellsE] using hj⟩
/-- A history being made, and the pairs behind it. -/
structure LpH (w : World) (Rn : List Pr) (Hn : List EvD) (am : Option Addr) (cm : Nat) (ah : Option Addr) (ch n : Nat) (M : List RE) (wr : World) : Prop where
  er : ERow wr (fun _ => False) (.slice ah n ch) M
  em : M.map (fun m => m.e) = Hn
  pr : PRow wr (fun j => (Value.slice ah n ch).ownBlock = some j) (.slice am Rn.length cm) Rn
  ow : ∀ k, (Value.slice ah n ch).ownBlock = some k → w.heap.size ≤ k
  be : Below w.heap.size w wr
theorem LpH.keep {w wr w' : World} {Rn : List Pr} {Hn : List EvD} {am ah : Option Addr} {cm ch n : Nat} {M : List RE} (h : LpH w Rn Hn am cm ah ch n M wr) (hb : Below wr.heap.size wr w') : LpH w Rn Hn am cm ah ch n M w' :=
  ⟨h.er.keep hb, h.em, h.pr.below hb, h.ow, pb2 h.be hb⟩
theorem LpH.push {w W w' : World} {Rn R' : List Pr} {Hn : List EvD} {am ah am' ao : Option Addr} {cm ch n cm' n' cap : Nat} {M ms : List RE} (h : LpH w Rn Hn am cm ah ch n M W) {Sx : Nat → Prop} (hp : PRow W Sx (.slice am' R'.length cm') R') (hS : ∀ k, (Value.slice ah n ch).ownBlock = some k → Sx k)
    (he : ERow w' (fun _ => False) (.slice ao n' cap) (M ++ ms)) (ho : Only (fun k => (Value.slice ah n ch).ownBlock = some k) W w') (hk : ∀ k, (Value.slice ao n' cap).ownBlock = some k → (Value.slice ah n ch).ownBlock = some k ∨ W.heap.size ≤ k) :
    LpH w R' (Hn ++ ms.map (fun m => m.e)) am' cm' ao cap n' (M ++ ms) w' := by
  refine ⟨he, by rw [List.map_append, h.em], ?_, fun k e => ?_, h.be.trans (ho.below h.ow h.be.size)⟩
  · refine ((hp.sub (S' := fun j => Sx j ∨ W.heap.size ≤ j) (fun k hk x => x.elim (fun y => y) (fun y => by omega))).onlyC ho (fun k hk => .inl (hS k hk))).sub (fun k _ e => ?_)
    rcases hk k e with x | x
    · exact .inl (hS k x)
    · exact .inr x
  · rcases hk k e with x | x
    · exact h.ow k x
    · exact Nat.le_trans h.be.size x
theorem LpH.es {w wr : World} {Rn : List Pr} {Hn : List EvD} {am ah : Option Addr} {cm ch n : Nat} {M : List RE} (h : LpH w Rn Hn am cm ah ch n M wr) : n = M.length ∧ Es wr ah ch Hn := by
  have := h.er.ns
  rw [h.em] at this
  exact this
end Go.Proofs.Ytadfnbmogobopaa
