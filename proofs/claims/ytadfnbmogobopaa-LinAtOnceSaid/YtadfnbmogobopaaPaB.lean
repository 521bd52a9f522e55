/- past.matched exactly. No condition: lemmas. -/
import Derived.Test.YtadfnbmogobopaaPaA
namespace Go.Proofs.Ytadfnbmogobopaa
open Go.RowKit
set_option linter.all false
set_option maxRecDepth 20000

/-- A call of no answer yet is appended onto a row of one's own. -/
theorem wpList_pushc {w : World} {ops : Array Oper} {rest : List Oper} {o : Oper} {a : Act} {Q : Exit → Act → World → Prop} (hgd : o.guard = none) (s x : Operand)
    (ho : o.op = .call { callee := .builtin .append, args := #[s, x], argTypes := #[51, 51] })
    (Qs : Nat → Prop) (v : Value) (M : List RC) (t f : Int) (op : OpD) (hs : a.eval s = v) (h : CRow w Qs v M) (hQ : ∀ k, Qs k → k < w.heap.size)
    (g : Nat) (hx : a.eval x = .slice (some ⟨g, 0, none⟩) 1 1) (hg : g = w.heap.size) (hl : M.length ≤ 100000)
    (H : ∀ ao cap w', cap ≤ maxLen → M.length + 1 ≤ cap → CRow w' Qs (.slice ao (M.length + 1) cap) (M ++ [⟨⟨t, f, -1, op, zAd⟩, none, 0⟩]) → (∀ k, (Value.slice ao (M.length + 1) cap).ownBlock = some k → v.ownBlock = some k ∨ w.heap.size ≤ k) → Only (fun k => v.ownBlock = some k) w w' →
      wpList Try.prog ops Q rest (a.put o.dst (.slice ao (M.length + 1) cap)) w') :
    wpList Try.prog ops Q (o :: rest) a (w.alloc (.cells #[.int .i64 t, .int .i64 f, .int .i64 (-1), .int .i64 op.c, .int .i64 op.k, .int .i64 op.h, .int .i64 op.v, .int .i64 0, .bool false, .int .i64 0, .int .i64 0, .int .i64 0, .slice none 0 0] 71)) := by
  subst hg
  have hA : Below w.heap.size w (w.alloc (.cells #[.int .i64 t, .int .i64 f, .int .i64 (-1), .int .i64 op.c, .int .i64 op.k, .int .i64 op.h, .int .i64 op.v, .int .i64 0, .bool false, .int .i64 0, .int .i64 0, .int .i64 0, .slice none 0 0] 71)) := pal _
  have h' := h.keep hA
  obtain ⟨i, hi, hz, hs1, hs2⟩ := info_parts infoCall
  refine wpList_own_append hgd s x 51 ho 71 i _ 13 120 Try.underlying51 hi hz hs1 hs2 rfl (by decide) v M.length (cellsC M) hs h'.row _ 1 (cellsC [⟨⟨t, f, -1, op, zAd⟩, none, 0⟩]) hx
    (.inr ⟨_, _, rfl, cells_new _ #[.int .i64 t, .int .i64 f, .int .i64 (-1), .int .i64 op.c, .int .i64 op.k, .int .i64 op.h, .int .i64 op.v, .int .i64 0, .bool false, .int .i64 0, .int .i64 0, .int .i64 0, .slice none 0 0] _⟩) rfl (fun u hu => cellsC_one _ u hu) (by unfold maxLen; omega) (by omega) ?_
  intro v' w' hown hgr hk
  have hk' : ∀ k, v'.ownBlock = some k → v.ownBlock = some k ∨ (w.alloc (.cells #[.int .i64 t, .int .i64 f, .int .i64 (-1), .int .i64 op.c, .int .i64 op.k, .int .i64 op.h, .int .i64 op.v, .int .i64 0, .bool false, .int .i64 0, .int .i64 0, .int .i64 0, .slice none 0 0] 71)).heap.size ≤ k := hk
  obtain ⟨ao, cap, rfl, h1, h2, h3, h4⟩ := cls_post (ms := [⟨⟨t, f, -1, op, zAd⟩, none, 0⟩]) h' (fun k hq => Nat.lt_of_lt_of_le (hQ k hq) hA.size) (fun m hm => by
    rw [List.mem_singleton.1 hm]
    exact ⟨Prs.nil _, fun hp => absurd rfl hp⟩) hown hgr hk'
  exact H ao cap w' h1 h2 h3 (fun k hk2 => by
    rcases hk' k hk2 with e | e
    · exact .inl e
    · exact .inr (Nat.le_trans hA.size e)) (((Only.refl _ w).alloc _).trans h4 (fun i hi _ => hi))

/-- To and Ans of a call of the row are written: Ans first, then To. -/
def W7 (w : World) (g p : Nat) (m : RC) : World :=
  ((((((w.setCell ⟨g, p + 7, none⟩ (.int .i64 m.n.a.err)).setCell ⟨g, p + 8, none⟩ (.bool m.n.a.ok)).setCell ⟨g, p + 9, none⟩ (.int .i64 m.n.a.k)).setCell ⟨g, p + 10, none⟩ (.int .i64 m.n.a.v)).setCell ⟨g, p + 11, none⟩ (.int .i64 m.n.a.n)).setCell ⟨g, p + 12, none⟩ (.slice m.a m.n.a.ps.length m.c))
theorem CRow.ans {W : World} {Q : Nat → Prop} {M : List RC} {g n cap : Nat} (h : CRow W Q (.slice (some ⟨g, 0, none⟩) n cap) M) {i : Nat} {c : ClD} {pa0 : Option Addr} {pc0 : Nat} (hm : M[i]? = some ⟨c, pa0, pc0⟩) (A : Ad) (pa : Option Addr) (pc : Nat) (hp : Prs W pa pc A.ps) (hs : A.ps ≠ [] → ∀ b o sp, pa = some ⟨b, o, sp⟩ → ¬ Q b ∧ g ≠ b) :
    CRow (W7 W g (i * 13) ⟨{ c with a := A }, pa, pc⟩) Q (.slice (some ⟨g, 0, none⟩) n cap) (M.set i ⟨{ c with a := A }, pa, pc⟩) := by
  have hi := (List.getElem?_eq_some_iff.1 hm).1
  obtain ⟨t, f, gg, op, ⟨ae, ao, ak, av, an, ap⟩⟩ := c
  obtain ⟨be, bo, bk, bv, bn, bp⟩ := A
  unfold W7
  dsimp only at hp hs ⊢
  have q0 := h.prs _ (List.mem_of_getElem? hm)
  dsimp only at q0
  have sep0 : ap ≠ [] → ∀ b o sp, pa0 = some ⟨b, o, sp⟩ → ¬ Q b ∧ g ≠ b := fun hpp b o sp e => ⟨(q0.2 hpp b o sp e).1, fun e' => (q0.2 hpp b o sp e).2 (by rw [← e']; rfl)⟩
  have step : ∀ {W : World} {p : List Pr} {pa : Option Addr} {pc : Nat} (j : Nat) (u : Value), Prs W pa pc p → (p ≠ [] → ∀ b o sp, pa = some ⟨b, o, sp⟩ → ¬ Q b ∧ g ≠ b) → Prs (W.setCell ⟨g, j, none⟩ u) pa pc p := fun {W p pa pc} j u hp hs =>
    prs_onlyC hp ((Only.refl _ W).setCell (S := fun k => k = g) (p := ⟨g, j, none⟩) (.inl rfl) u) (fun hpp b o sp e hb => (hs hpp b o sp e).2 hb.symm)
  have z0 := q0.1
  have h1 := h.cell hm ⟨⟨t, f, gg, op, ⟨be, ao, ak, av, an, ap⟩⟩, pa0, pc0⟩ 7 (.int .i64 be) (by decide) rfl z0 sep0
  have z1 := step (i * 13 + 7) (.int .i64 be) z0 sep0
  have h2 := h1.cell (List.getElem?_set_self hi) ⟨⟨t, f, gg, op, ⟨be, bo, ak, av, an, ap⟩⟩, pa0, pc0⟩ 8 (.bool bo) (by decide) rfl z1 sep0
  have z2 := step (i * 13 + 8) (.bool bo) z1 sep0
  rw [List.set_set] at h2
  have h3 := h2.cell (List.getElem?_set_self hi) ⟨⟨t, f, gg, op, ⟨be, bo, bk, av, an, ap⟩⟩, pa0, pc0⟩ 9 (.int .i64 bk) (by decide) rfl z2 sep0
  have z3 := step (i * 13 + 9) (.int .i64 bk) z2 sep0
  rw [List.set_set] at h3
  have h4 := h3.cell (List.getElem?_set_self hi) ⟨⟨t, f, gg, op, ⟨be, bo, bk, bv, an, ap⟩⟩, pa0, pc0⟩ 10 (.int .i64 bv) (by decide) rfl z3 sep0
  have z4 := step (i * 13 + 10) (.int .i64 bv) z3 sep0
  rw [List.set_set] at h4
  have h5 := h4.cell (List.getElem?_set_self hi) ⟨⟨t, f, gg, op, ⟨be, bo, bk, bv, bn, ap⟩⟩, pa0, pc0⟩ 11 (.int .i64 bn) (by decide) rfl z4 sep0
  rw [List.set_set] at h5
  have y5 := step (i * 13 + 11) (.int .i64 bn) (step (i * 13 + 10) (.int .i64 bv) (step (i * 13 + 9) (.int .i64 bk) (step (i * 13 + 8) (.bool bo) (step (i * 13 + 7) (.int .i64 be) hp hs) hs) hs) hs) hs
  have h6 := h5.cell (List.getElem?_set_self hi) ⟨⟨t, f, gg, op, ⟨be, bo, bk, bv, bn, bp⟩⟩, pa, pc⟩ 12 (.slice pa bp.length pc) (by decide) rfl y5 hs
  rw [List.set_set] at h6
  exact h6
theorem CRow.to {W : World} {Q : Nat → Prop} {M : List RC} {g n cap : Nat} (h : CRow W Q (.slice (some ⟨g, 0, none⟩) n cap) M) {i : Nat} {c : ClD} {pa : Option Addr} {pc : Nat} (hm : M[i]? = some ⟨c, pa, pc⟩) (z : Int) :
    CRow (W.setCell ⟨g, i * 13 + 2, none⟩ (.int .i64 z)) Q (.slice (some ⟨g, 0, none⟩) n cap) (M.set i ⟨{ c with g := z }, pa, pc⟩) := by
  obtain ⟨t, f, gg, op, A⟩ := c
  have q0 := h.prs _ (List.mem_of_getElem? hm)
  exact h.cell hm ⟨⟨t, f, z, op, A⟩, pa, pc⟩ 2 (.int .i64 z) (by decide) rfl q0.1 (fun hpp b o sp e => ⟨(q0.2 hpp b o sp e).1, fun e' => (q0.2 hpp b o sp e).2 (by rw [← e']; rfl)⟩)
theorem only_W7 {W : World} {g p : Nat} {m : RC} : Only (fun k => k = g) W (W7 W g p m) := by
  unfold W7
  have s : ∀ {W2 : World} (k : Nat) (u : Value), Only (fun j => j = g) W W2 → Only (fun j => j = g) W (W2.setCell ⟨g, k, none⟩ u) := fun k u h => h.setCell (.inl rfl) u
  exact s _ _ (s _ _ (s _ _ (s _ _ (s _ _ (s _ _ (Only.refl _ _))))))

def ntv (l : List Nat) : List Value := l.map (fun i : Nat => Value.int .i64 (i : Int))
theorem ntv_set (l : List Nat) (i x : Nat) : (ntv l).set i (.int .i64 (x : Int)) = ntv (l.set i x) := by unfold ntv; rw [List.map_set]
theorem ntv_get {l : List Nat} {i : Nat} (h : i < l.length) : (ntv l)[i]? = some (.int .i64 ((l.getD i 0 : Nat) : Int)) := by
  unfold ntv
  rw [List.getElem?_map, List.getElem?_eq_getElem h, List.getD_eq_getElem?_getD, List.getElem?_eq_getElem h]; rfl
theorem ntv_len (l : List Nat) : (ntv l).length = l.length := by simp [ntv]

/-- What past.matched tells. -/
def MtIs (w : World) (N : List EvD) (e : Ending) (w' : World) : Prop :=
  Below w.heap.size w w' ∧ ((mtch N = none ∧ e = .returned (.tuple #[.slice none 0 0, .bool false])) ∨
    ∃ s ao cap M, mtch N = some s ∧ e = .returned (.tuple #[.slice ao M.length cap, .bool true]) ∧ CRow w' (fun _ => False) (.slice ao M.length cap) M ∧ M.map (fun m => m.n) = s.l ∧ ∀ k, (Value.slice ao M.length cap).ownBlock = some k → w.heap.size ≤ k)
/-- The loop of past.matched: g is the block of waits. -/
structure ML (w0 : World) (N : List EvD) (n : Nat) (s : Mt) (ao : Option Addr) (cap : Nat) (M : List RC) (W : World) : Prop where
  m : mtc N n = some s
  row : CRow W (fun k => k = w0.heap.size) (.slice ao M.length cap) M
  l : M.map (fun m => m.n) = s.l
  own : ∀ k, (Value.slice ao M.length cap).ownBlock = some k → w0.heap.size < k
  wt : Bq W w0.heap.size (ntv s.w)
  be : Below w0.heap.size w0 W
theorem ML.keep {w0 W W' : World} {N : List EvD} {n : Nat} {s : Mt} {ao : Option Addr} {cap : Nat} {M : List RC} (h : ML w0 N n s ao cap M W) (hb : Below W.heap.size W W') : ML w0 N n s ao cap M W' :=
  ⟨h.m, h.row.keep hb, h.l, h.own, h.wt.keep hb, pb2 h.be hb⟩
theorem ML.len {w0 W : World} {N : List EvD} {n : Nat} {s : Mt} {ao : Option Addr} {cap : Nat} {M : List RC} (h : ML w0 N n s ao cap M W) : M.length = s.l.length := by rw [← h.l, List.length_map]
theorem mt_none {N : List EvD} {n : Nat} (h : mtc N (n + 1) = none) (hn : n < N.length) : mtch N = none := mtc_none h _ (by omega)
theorem ML.at {w0 W : World} {N : List EvD} {n : Nat} {s : Mt} {ao : Option Addr} {cap : Nat} {M : List RC} (h : ML w0 N n s ao cap M W) {t : Int} (ht : okT t) (h0 : 0 < s.x t) :
    ∃ (g i : Nat) (m : RC), ao = some ⟨g, 0, none⟩ ∧ s.x t = i + 1 ∧ M[i]? = some m ∧ m.n = s.c (i + 1) ∧ m.n.t = t ∧ i < M.length ∧ CA W g (i * 13) m.a m.c m.n ∧ (∀ j, W.frozen? ⟨g, j, none⟩ = false) ∧ w0.heap.size < g := by
  have I := minv N n s h.m
  rcases I.wt t ht with ⟨a, _⟩ | ⟨i, c, h1, h2, h3, h4, h5⟩
  · omega
  have hl := h.l
  have hi := (List.getElem?_eq_some_iff.1 h2).1
  have hi' : i < M.length := by rw [h.len]; exact hi
  obtain ⟨m, hm⟩ : ∃ m, M[i]? = some m := ⟨_, List.getElem?_eq_getElem hi'⟩
  have e : m.n = c := by
    have : (M.map (fun m => m.n))[i]? = some m.n := by rw [List.getElem?_map, hm]; rfl
    rw [hl, h2] at this; cases this; rfl
  obtain ⟨g, rfl, _, hca, hf⟩ := h.row.at hm
  exact ⟨g, i, m, rfl, h1, hm, by rw [c_at h2, e], by rw [e]; exact h3, hi', hca, hf, h.own g rfl⟩

theorem plt {W : World} {pa : Option Addr} {pc : Nat} {p : List Pr} (hp : Prs W pa pc p) (hne : p ≠ []) {b o : Nat} {sp : Option Nat} (e : pa = some ⟨b, o, sp⟩) : b < W.heap.size := by
  obtain ⟨q, l, rfl⟩ := List.exists_cons_of_ne_nil hne
  obtain ⟨b', o', e', c0, _⟩ := hp.2.2.1 0 q rfl
  rw [e] at e'; cases e'
  exact World.block_lt_of_cell? W _ c0
theorem CRow.toAns {W : World} {Q : Nat → Prop} {M : List RC} {g n cap : Nat} (h : CRow W Q (.slice (some ⟨g, 0, none⟩) n cap) M) {i : Nat} {c : ClD} {pa0 : Option Addr} {pc0 : Nat} (hm : M[i]? = some ⟨c, pa0, pc0⟩) (z : Int) (A : Ad) (pa : Option Addr) (pc : Nat) (hp : Prs W pa pc A.ps) (hs : A.ps ≠ [] → ∀ b o sp, pa = some ⟨b, o, sp⟩ → ¬ Q b ∧ g ≠ b) :
    CRow (W7 (W.setCell ⟨g, i * 13 + 2, none⟩ (.int .i64 z)) g (i * 13) ⟨{ c with g := z, a := A }, pa, pc⟩) Q (.slice (some ⟨g, 0, none⟩) n cap) (M.set i ⟨{ c with g := z, a := A }, pa, pc⟩) ∧
    Only (fun k => k = g) W (W7 (W.setCell ⟨g, i * 13 + 2, none⟩ (.int .i64 z)) g (i * 13) ⟨{ c with g := z, a := A }, pa, pc⟩) := by
  have hi := (List.getElem?_eq_some_iff.1 hm).1
  have h1 := h.to hm z
  have o1 : Only (fun k => k = g) W (W.setCell ⟨g, i * 13 + 2, none⟩ (.int .i64 z)) := (Only.refl _ W).setCell (S := fun k => k = g) (p := ⟨g, i * 13 + 2, none⟩) (.inl rfl) _
  have h2 := h1.ans (List.getElem?_set_self hi) A pa pc (prs_onlyC hp o1 (fun hpp b o sp e hb => (hs hpp b o sp e).2 hb.symm)) hs
  rw [List.set_set] at h2
  exact ⟨h2, o1.trans only_W7 (fun k hk _ => hk)⟩
theorem wrapEqP (x : Int) : IntKind.i64.wrap x = wrap64 x := by rw [IntKind.wrap_i64]; unfold wrap64; omega
theorem stp_ret {s : Mt} {n : Nat} {e : EvD} (h : okT e.t) (hr : s.rets e) : stp s n e = some (s.ret n e) := by unfold stp; rw [if_pos h, if_pos hr]
theorem stp_beg {s : Mt} {n : Nat} {e : EvD} (h : okT e.t) (hr : s.begs e) : stp s n e = some (s.beg n e) := by
  unfold stp; rw [if_pos h, if_neg (fun x => by have := x.1; rw [hr.1] at this; cases this), if_pos hr]
theorem stp_no {s : Mt} {n : Nat} {e : EvD} (h1 : ¬ s.rets e) (h2 : ¬ s.begs e) : stp s n e = none := by
  unfold stp; rw [if_neg h1, if_neg h2]; split <;> rfl
theorem ML.beg {w0 W W' : World} {N : List EvD} {n : Nat} {s : Mt} {ao bo : Option Addr} {cap bc : Nat} {M : List RC} {t : Nat} {op : OpD} (h : ML w0 N n s ao cap M W)
    (hr : CRow W' (fun k => k = w0.heap.size) (.slice bo (M.length + 1) bc) (M ++ [⟨⟨(t : Int), (n : Int), -1, op, zAd⟩, none, 0⟩])) (hk : ∀ k, (Value.slice bo (M.length + 1) bc).ownBlock = some k → (Value.slice ao M.length cap).ownBlock = some k ∨ W.heap.size ≤ k)
    (ho : Only (fun k => (Value.slice ao M.length cap).ownBlock = some k) W W') (ht : t < 6) (e : EvD) (he : e.t = (t : Int)) (heo : e.o = op) (hm : mtc N (n + 1) = some (s.beg n e)) :
    ML w0 N (n + 1) (s.beg n e) bo bc (M ++ [⟨⟨(t : Int), (n : Int), -1, op, zAd⟩, none, 0⟩]) (W'.setCell ⟨w0.heap.size, t, none⟩ (.int .i64 ((M.length : Int) + 1))) := by
  have hg : Only (fun k => k = w0.heap.size) W' (W'.setCell ⟨w0.heap.size, t, none⟩ (.int .i64 ((M.length : Int) + 1))) := (Only.refl _ W').setCell (S := fun k => k = w0.heap.size) (p := ⟨w0.heap.size, t, none⟩) (.inl rfl) _
  have I := minv N n s h.m
  have hw : Bq W' w0.heap.size (ntv s.w) := h.wt.only ho (fun x => by have := h.own _ x; omega)
  have hlt := h.wt.lt
  refine ⟨hm, by simpa using hr.only hg (fun k hk => hk), ?_, ?_, ?_, ?_⟩
  · rw [List.map_append, h.l]; subst heo; unfold Mt.beg; rw [he]; rfl
  · intro k hk'
    rw [List.length_append, List.length_singleton] at hk'
    rcases hk k hk' with x | x
    · exact h.own k x
    · omega
  · have := hw.set t (.int .i64 ((M.length + 1 : Nat) : Int)) (by rw [ntv_len, I.len]; exact ht)
    rw [ntv_set] at this
    unfold Mt.beg
    rw [he, Int.toNat_natCast, ← h.len]
    exact this
  · refine Below.setCell ?_ (by dsimp only; omega) _
    exact h.be.trans (ho.below (fun i hi => by have := h.own i hi; omega) h.be.size)
theorem ML.ret {w0 W W' : World} {N : List EvD} {n : Nat} {s : Mt} {g : Nat} {cap i : Nat} {M : List RC} {t : Nat} {c : ClD} {pa0 : Option Addr} {pc0 : Nat} (h : ML w0 N n s (some ⟨g, 0, none⟩) cap M W)
    (hm : M[i]? = some ⟨c, pa0, pc0⟩) (hx : s.x (t : Int) = i + 1) (hc : s.c (i + 1) = c) (ht : t < 6) (e : EvD) (pa : Option Addr) (pc : Nat) (hp : Prs w0 pa pc e.a.ps) (he : e.t = (t : Int)) (hmt : mtc N (n + 1) = some (s.ret n e)) (hgg : w0.heap.size < g)
    (hr : CRow W' (fun k => k = w0.heap.size) (.slice (some ⟨g, 0, none⟩) M.length cap) (M.set i ⟨{ c with g := (n : Int), a := e.a }, pa, pc⟩)) (ho : Only (fun k => k = g) W W') :
    ML w0 N (n + 1) (s.ret n e) (some ⟨g, 0, none⟩) cap (M.set i ⟨{ c with g := (n : Int), a := e.a }, pa, pc⟩) (W'.setCell ⟨w0.heap.size, t, none⟩ (.int .i64 0)) := by
  have hg : Only (fun k => k = w0.heap.size) W' (W'.setCell ⟨w0.heap.size, t, none⟩ (.int .i64 0)) := (Only.refl _ W').setCell (S := fun k => k = w0.heap.size) (p := ⟨w0.heap.size, t, none⟩) (.inl rfl) _
  have I := minv N n s h.m
  have hw : Bq W' w0.heap.size (ntv s.w) := h.wt.only ho (fun x => by omega)
  refine ⟨hmt, ?_, ?_, ?_, ?_, ?_⟩
  · rw [List.length_set]; exact hr.only hg (fun k hk => hk)
  · unfold Mt.ret; rw [he, hx, hc, Nat.add_sub_cancel, List.map_set, h.l]
  · intro k hk; simp [Value.ownBlock] at hk; omega
  · have := hw.set t (.int .i64 ((0 : Nat) : Int)) (by rw [ntv_len, I.len]; exact ht)
    rw [ntv_set] at this
    unfold Mt.ret
    rw [he, Int.toNat_natCast]
    exact this
  · refine Below.setCell ?_ (by dsimp only; omega) _
    exact h.be.trans (ho.below (fun j hj => by omega) h.be.size)

set_option maxRecDepth 100000 in
set_option maxHeartbeats 12800000 in
theorem matched_any (a : Option Addr) (cap : Nat) (N : List EvD) (w : World) (hN : Es w a cap N) (hl : N.length ≤ 300) :
    Calls Try.prog 27 #[.slice a N.length cap] w (MtIs w N) := by
  have HN := Lib.hid hN
  have hc1 := hN.1
  have hc2 := hN.2.1
  unfold maxLen at hc2
  have HW0 := Lib.hid (Bq.new w #[.int .i64 0, .int .i64 0, .int .i64 0, .int .i64 0, .int .i64 0, .int .i64 0] 99)
  have HB0 := Lib.hid (pal (w := w) (.cells #[.int .i64 0, .int .i64 0, .int .i64 0, .int .i64 0, .int .i64 0, .int .i64 0] 99))
  clear hN
  go_enter Try.func27, Try.ntmps27
  go_wp2_with (fail)
  go_loopw [11, 4] (fun i x wr => ∃ (n : Nat) (s : Mt) (ao : Option Addr) (lc : Nat) (M : List RC), n ≤ N.length ∧ i = .int .i64 n ∧ x = .slice ao M.length lc ∧ ML w N n s ao lc M wr) (fun i _ _ => N.length - (intOf i).toNat)
  case atStart => exact ⟨0, Mt.z, none, 0, [], Nat.zero_le _, rfl, rfl, ⟨rfl, CRow.nil _ _, rfl, fun k hk => by simp [Value.ownBlock] at hk, HW0.out, HB0.out⟩⟩
  case round =>
    obtain ⟨n, s, lo, lc, M, hn, rfl, rfl, hML⟩ := hrel
    by_cases hlt : n < N.length
    rotate_left
    · obtain rfl : n = N.length := by omega
      have HML := Lib.hid hML
      clear hML
      go_wp2_with (fail)
      refine bodyPost_ret (v := .tuple #[.slice lo M.length lc, .bool true]) (by simp [results, Try.results27, go_sem]) rfl ?_
      exact ⟨HML.out.be, .inr ⟨s, lo, lc, M, HML.out.m, rfl, HML.out.row.sub (fun k _ hk => hk.elim), HML.out.l, fun k hk => Nat.le_of_lt (HML.out.own k hk)⟩⟩
    obtain ⟨x, hx⟩ : ∃ x, N[n]? = some x := ⟨_, List.getElem?_eq_getElem hlt⟩
    obtain ⟨b, o, pa, pc, rfl, hx0⟩ := HN.out.2.2 n x hx
    have hx1 := hx0.keep hML.be
    have HP0 := Lib.hid hx0.ps
    clear hx0
    have hgx : N.getD n zEv = x := by rw [List.getD_eq_getElem?_getD, hx]; rfl
    have hn0 : (0 : Int) ≤ (n : Int) := by omega
    have hnl : (n : Int) < (N.length : Int) := by omega
    obtain ⟨e0, e1, e2, e3, e4, e5, e6, e7, e8, e9, e10, e11⟩ := hx1.ex
    have hps := hx1.ps
    by_cases hT : okT x.t
    rotate_left
    · have hno : mtch N = none := mt_none (by rw [mtc_succ, hML.m]; simp only [Option.bind_some]; unfold stp; rw [hgx, if_neg hT]) hlt
      have HNO := Lib.hid hno
      have HML := Lib.hid hML
      obtain ⟨t, r, ⟨oc, ok, oh, ov⟩, ⟨ae, ao, ak, av, an, ap⟩⟩ := x
      dsimp only at e0 e1 e2 e3 e4 e5 e6 e7 e8 e9 e10 e11 hT
      unfold okT at hT
      clear hx hx1 hgx hps hno hML
      by_cases ht0 : t < 0
      · clear hT
        go_wp2_with (fail)
        refine bodyPost_ret (v := .tuple #[.slice none 0 0, .bool false]) (by simp [results, Try.results27, go_sem]) rfl ⟨pb2 HML.out.be (pal _), .inl ⟨HNO.out, rfl⟩⟩
      · have ht6 : 6 ≤ t := by omega
        have ht0' : 0 ≤ t := by omega
        clear hT
        go_wp2_with (fail)
        refine bodyPost_ret (v := .tuple #[.slice none 0 0, .bool false]) (by simp [results, Try.results27, go_sem]) rfl ⟨pb2 HML.out.be (pal _), .inl ⟨HNO.out, rfl⟩⟩
    have hI := minv N n s hML.m
    obtain ⟨t, r, ⟨oc, ok, oh, ov⟩, ⟨ae, ao, ak, av, an, ap⟩⟩ := x
    dsimp only at e0 e1 e2 e3 e4 e5 e6 e7 e8 e9 e10 e11 hT hps
    obtain ⟨tn, rfl⟩ : ∃ k : Nat, t = (k : Int) := ⟨t.toNat, by unfold okT at hT; omega⟩
    have htn : tn < 6 := by unfold okT at hT; omega
    have ht0 : (0 : Int) ≤ (tn : Int) := by omega
    have ht6 : (tn : Int) < 6 := by omega
    have hstp : mtc N (n + 1) = stp s n ⟨(tn : Int), r, ⟨oc, ok, oh, ov⟩, ⟨ae, ao, ak, av, an, ap⟩⟩ := by rw [mtc_succ, hML.m]; simp only [Option.bind_some]; rw [hgx]
    have hlast := hML.wt.at_ tn _ (ntv_get (by rw [hI.len]; exact htn))
    obtain ⟨X, hX⟩ : ∃ X : Nat, s.w.getD tn 0 = X := ⟨_, rfl⟩
    rw [hX] at hlast
    have hXs : s.x (tn : Int) = X := by unfold Mt.x; rw [Int.toNat_natCast]; exact hX
    have hML2 := hML.keep (pal (.cells #[.int .i64 (tn : Int), .bool r, .int .i64 oc, .int .i64 ok, .int .i64 oh, .int .i64 ov, .int .i64 ae, .bool ao, .int .i64 ak, .int .i64 av, .int .i64 an, .slice pa ap.length pc] 36))
    have hEB := Bq.new wr #[.int .i64 (tn : Int), .bool r, .int .i64 oc, .int .i64 ok, .int .i64 oh, .int .i64 ov, .int .i64 ae, .bool ao, .int .i64 ak, .int .i64 av, .int .i64 an, .slice pa ap.length pc] 36
    have hHP := hps.below (pal (w := wr) (.cells #[.int .i64 (tn : Int), .bool r, .int .i64 oc, .int .i64 ok, .int .i64 oh, .int .i64 ov, .int .i64 ae, .bool ao, .int .i64 ak, .int .i64 av, .int .i64 an, .slice pa ap.length pc] 36))
    have hlast2 := pkc (pal (w := wr) (.cells #[.int .i64 (tn : Int), .bool r, .int .i64 oc, .int .i64 ok, .int .i64 oh, .int .i64 ov, .int .i64 ae, .bool ao, .int .i64 ak, .int .i64 av, .int .i64 an, .slice pa ap.length pc] 36)) hlast
    have HLO := Lib.hid (show ∀ k, (Value.slice lo M.length lc).ownBlock = some k → k < wr.heap.size from fun k hk => (hML.row.row.lt k hk).2)
    have HML := Lib.hid hML2
    have HEB := Lib.hid hEB
    have HPS := Lib.hid hHP
    have HSTP := Lib.hid hstp
    have HXS := Lib.hid hXs
    have HT := Lib.hid hT
    have HI := Lib.hid hI
    have HLT := Lib.hid hlt
    have HHX := Lib.hid hX
    clear hx hx1 hgx hps hstp hML hML2 hEB hHP hlast hX hXs hT hI
    cases r
    · -- a call
      have NR : ¬ s.rets ⟨(tn : Int), false, ⟨oc, ok, oh, ov⟩, ⟨ae, ao, ak, av, an, ap⟩⟩ := fun x => by cases x.1
      have HNR := Lib.hid NR
      clear NR
      by_cases hX0 : X = 0
      rotate_left
      · have hXi : ((X : Int) == 0) = false := by simpa using hX0
        have HNB := Lib.hid (show ¬ s.begs ⟨(tn : Int), false, ⟨oc, ok, oh, ov⟩, ⟨ae, ao, ak, av, an, ap⟩⟩ from fun x => hX0 (by rw [← HXS.out]; exact x.2.1))
        clear hX0
        have HNO := Lib.hid (mt_none (HSTP.out.trans (stp_no HNR.out HNB.out)) HLT.out)
        have hbe := HML.out.be
        have HBE := Lib.hid hbe
        clear hbe HSTP HI HXS HHX HT HPS HEB
        go_wp2_with (fail)
        go_quiet (fail)
        go_wp2_with (fail)
        refine bodyPost_ret (v := .tuple #[.slice none 0 0, .bool false]) (by simp [results, Try.results27, go_sem]) rfl ⟨below_drewN HBE.out _, .inl ⟨HNO.out, rfl⟩⟩
      · subst hX0
        have cb := fun W (hb : Below (wr.alloc (.cells #[.int .i64 (tn : Int), .bool false, .int .i64 oc, .int .i64 ok, .int .i64 oh, .int .i64 ov, .int .i64 ae, .bool ao, .int .i64 ak, .int .i64 av, .int .i64 an, .slice pa ap.length pc] 36)).heap.size (wr.alloc (.cells #[.int .i64 (tn : Int), .bool false, .int .i64 oc, .int .i64 ok, .int .i64 oh, .int .i64 ov, .int .i64 ae, .bool ao, .int .i64 ak, .int .i64 av, .int .i64 an, .slice pa ap.length pc] 36)) W) => beg_any ⟨(tn : Int), false, ⟨oc, ok, oh, ov⟩, ⟨ae, ao, ak, av, an, ap⟩⟩ pa pc W (HPS.out.below hb)
        obtain ⟨B, hB⟩ : ∃ B : Bool, decide (okOp oc ∧ (⟨ae, ao, ak, av, an, ap⟩ : Ad) = zAd) = B := ⟨_, rfl⟩
        have cb1 := fun W hb => cb W hb B hB
        unfold evV at cb1
        dsimp only at cb1
        have HBB := Lib.hid hB
        clear cb hB
        go_wp2_with (fail)
        go_quiet (fail)
        have hk := below_drewN (Below.refl (wr.alloc (.cells #[.int .i64 (tn : Int), .bool false, .int .i64 oc, .int .i64 ok, .int .i64 oh, .int .i64 ov, .int .i64 ae, .bool ao, .int .i64 ak, .int .i64 av, .int .i64 an, .slice pa ap.length pc] 36)).heap.size (wr.alloc (.cells #[.int .i64 (tn : Int), .bool false, .int .i64 oc, .int .i64 ok, .int .i64 oh, .int .i64 ov, .int .i64 ae, .bool ao, .int .i64 ak, .int .i64 av, .int .i64 an, .slice pa ap.length pc] 36))) nq
        have HK := Lib.hid hk
        have HML2 := Lib.hid (HML.out.keep hk)
        have HEB2 := Lib.hid (HEB.out.keep hk)
        have cb2 := cb1 _ hk
        have q0 := HEB2.out.at_ 0 _ rfl
        have q1 := HEB2.out.at_ 1 _ rfl
        have q2 := HEB2.out.at_ 2 _ rfl
        have q3 := HEB2.out.at_ 3 _ rfl
        have q4 := HEB2.out.at_ 4 _ rfl
        have q5 := HEB2.out.at_ 5 _ rfl
        have q6 := HEB2.out.at_ 6 _ rfl
        have q7 := HEB2.out.at_ 7 _ rfl
        have q8 := HEB2.out.at_ 8 _ rfl
        have q9 := HEB2.out.at_ 9 _ rfl
        have q10 := HEB2.out.at_ 10 _ rfl
        have q11 := HEB2.out.at_ 11 _ rfl
        clear hk cb1 HEB HML HPS
        generalize (wr.alloc (.cells #[.int .i64 (tn : Int), .bool false, .int .i64 oc, .int .i64 ok, .int .i64 oh, .int .i64 ov, .int .i64 ae, .bool ao, .int .i64 ak, .int .i64 av, .int .i64 an, .slice pa ap.length pc] 36)).drewN nq = w3 at HML2 HEB2 cb2 q0 q1 q2 q3 q4 q5 q6 q7 q8 q9 q10 q11 HK ⊢
        cases B
        · have HNB := Lib.hid (show ¬ s.begs ⟨(tn : Int), false, ⟨oc, ok, oh, ov⟩, ⟨ae, ao, ak, av, an, ap⟩⟩ from fun x => by have h1 := of_decide_eq_false HBB.out; exact h1 x.2.2)
          have HNO := Lib.hid (mt_none (HSTP.out.trans (stp_no HNR.out HNB.out)) HLT.out)
          have HBE := Lib.hid HML2.out.be
          clear HSTP HI HXS HHX HT
          go_wp2_with (go_at_call 47; ((with_reducible refine cb2.mono ?_); clear cb2; rintro e w4 ⟨rfl, hb4⟩))
          refine bodyPost_ret (v := .tuple #[.slice none 0 0, .bool false]) (by simp [results, Try.results27, go_sem]) rfl ⟨pb2 HBE.out hb4, .inl ⟨HNO.out, rfl⟩⟩
        · have HYB := Lib.hid (show s.begs ⟨(tn : Int), false, ⟨oc, ok, oh, ov⟩, ⟨ae, ao, ak, av, an, ap⟩⟩ from ⟨rfl, HXS.out, of_decide_eq_true HBB.out⟩)
          have HY := Lib.hid (HSTP.out.trans (stp_beg HT.out HYB.out))
          have hMl : M.length ≤ n := by
            rw [HML2.out.len, HI.out.nb]; exact (cnt_le N n).1
          have hMl2 : M.length ≤ 100000 := by omega
          clear HSTP HI HXS HHX HT HNR HYB
          go_wp2_with (first
            | (go_at_call 47; ((with_reducible refine cb2.mono ?_); clear cb2 q0 q1 q2 q3 q4 q5 q6 q7 q8 q9 q10 q11; rintro e w4 ⟨rfl, hb4⟩; have HML4 := Lib.hid (HML2.out.keep hb4); have HEB4 := Lib.hid (HEB2.out.keep hb4); clear hb4 HML2 HEB2; have r0 := HEB4.out.at_ 0 _ rfl; have r2 := HEB4.out.at_ 2 _ rfl; have r3 := HEB4.out.at_ 3 _ rfl; have r4 := HEB4.out.at_ 4 _ rfl; have r5 := HEB4.out.at_ 5 _ rfl))
            | (at_builtin; refine wpList_pushc rfl _ (.tmp 81) rfl (fun k => k = w.heap.size) (.slice lo M.length lc) M (tn : Int) (n : Int) ⟨oc, ok, oh, ov⟩ rfl HML4.out.row (fun k hk => by subst hk; exact HML4.out.wt.lt) _ rfl rfl hMl2 ?_; intro ao5 cp5 w5 hm5 hc5 hR5 hK5 hO5; have HEB5 := Lib.hid (HEB4.out.only hO5 (fun x => by have hlt := HLO.out _ x; omega)); have HWT5 := Lib.hid (HML4.out.wt.only hO5 (fun x => by have hlt := HML4.out.own _ x; omega)); have HR5 := Lib.hid (And.intro hR5 (And.intro hK5 hO5)); clear r0 r2 r3 r4 r5; have r0 := HEB5.out.at_ 0 _ rfl; have z5 := HWT5.out.at_ tn _ (ntv_get (by rw [(minv N n s HML4.out.m).len]; exact htn)); have f5 := HWT5.out.fr tn; clear hR5 hK5 hO5; unfold maxLen at hm5)
            | fail)
          go_roundw
          case rel => exact ⟨n + 1, _, ao5, cp5, _, by have := HLT.out; omega, by go_num, by rw [List.length_append]; rfl, HML4.out.beg HR5.out.1 HR5.out.2.1 HR5.out.2.2 htn _ rfl rfl HY.out⟩
          case measure => have := HLT.out; simp [intOf]; omega
    · -- a return
      have NB : ¬ s.begs ⟨(tn : Int), true, ⟨oc, ok, oh, ov⟩, ⟨ae, ao, ak, av, an, ap⟩⟩ := fun x => by cases x.1
      have HNB := Lib.hid NB
      clear NB
      go_wp2_with (fail)
      have q0 := HEB.out.at_ 0 _ rfl
      have q1 := HEB.out.at_ 1 _ rfl
      have q2 := HEB.out.at_ 2 _ rfl
      have q3 := HEB.out.at_ 3 _ rfl
      have q4 := HEB.out.at_ 4 _ rfl
      have q5 := HEB.out.at_ 5 _ rfl
      generalize wr.alloc (.cells #[.int .i64 (tn : Int), .bool true, .int .i64 oc, .int .i64 ok, .int .i64 oh, .int .i64 ov, .int .i64 ae, .bool ao, .int .i64 ak, .int .i64 av, .int .i64 an, .slice pa ap.length pc] 36) = W2 at *
      clear e0 e1 e2 e3 e4 e5 e6 e7 e8 e9 e10 e11
      by_cases hX0 : X = 0
      · subst hX0
        have HNR := Lib.hid (show ¬ s.rets ⟨(tn : Int), true, ⟨oc, ok, oh, ov⟩, ⟨ae, ao, ak, av, an, ap⟩⟩ from fun x => by have h1 := x.2.1; rw [HXS.out] at h1; omega)
        have HNO := Lib.hid (mt_none (HSTP.out.trans (stp_no HNR.out HNB.out)) HLT.out)
        have hbe := HML.out.be
        have HBE := Lib.hid hbe
        clear hbe HSTP HI HXS HHX HT HPS HEB
        go_quiet (fail)
        go_wp2_with (fail)
        refine bodyPost_ret (v := .tuple #[.slice none 0 0, .bool false]) (by simp [results, Try.results27, go_sem]) rfl ⟨below_drewN HBE.out _, .inl ⟨HNO.out, rfl⟩⟩
      obtain ⟨gl, i, ⟨⟨ct, cf, cg, ⟨dc, dk, dh, dv⟩, ⟨be, bo, bk, bv, bn, bp⟩⟩, qa, qc⟩, rfl, hx, hm, hmn, hmt, hiM, hca, hfr, hgl⟩ := HML.out.at HT.out (by rw [HXS.out]; omega)
      obtain rfl : X = i + 1 := by rw [← HXS.out]; exact hx
      obtain ⟨c0, c1, c2, c3, c4, c5, c6, c7, c8, c9, c10, c11, c12⟩ := hca.ex
      dsimp only at c0 c1 c2 c3 c4 c5 c6 c7 c8 c9 c10 c11 c12
      have HC := Lib.hid (And.intro c2 (And.intro c7 (And.intro c8 (And.intro c9 (And.intro c10 (And.intro c11 c12))))))
      clear c0 c1 c2 c7 c8 c9 c10 c11 c12
      have HM := Lib.hid hm
      have HMN := Lib.hid hmn
      have HFR := Lib.hid hfr
      have HGL := Lib.hid hgl
      rw [Int.natCast_add] at hlast2
      have hp0 : (0 : Int) < (i : Int) + 1 := by omega
      have hMl : M.length ≤ n := by
        rw [HML.out.len, HI.out.nb]; exact (cnt_le N n).1
      have hiN : i < 300 := by have := HLT.out; omega
      have hi0 : (0 : Int) ≤ (i : Int) := by omega
      have hil : (i : Int) < (M.length : Int) := by omega
      have hil2 : ¬ (M.length : Int) ≤ (i : Int) := by omega
      have hw1 : wrap64 ((i : Int) + 1 - 1) = (i : Int) := by unfold wrap64; omega
      have hw2 : IntKind.i64.wrap ((i : Int) + 1 - 1) = (i : Int) := (wrapEqP _).trans hw1
      have hw3 : wrap64 (i : Int) = (i : Int) := by unfold wrap64; omega
      have hw4 : IntKind.i64.wrap (i : Int) = (i : Int) := (wrapEqP _).trans hw3
      have HSX := Lib.hid (show s.x (tn : Int) = i + 1 from hx)
      clear hm hmn hmt hca hfr hgl hx hX0
      by_cases hq1 : dc = oc
      rotate_left
      · have hqq : (dc == oc) = false := by simpa using hq1
        have HNR := Lib.hid (show ¬ s.rets ⟨(tn : Int), true, ⟨oc, ok, oh, ov⟩, ⟨ae, ao, ak, av, an, ap⟩⟩ from fun x => by have h1 := x.2.2; rw [HSX.out, ← HMN.out] at h1; cases h1; exact hq1 rfl)
        clear hq1
        have HNO := Lib.hid (mt_none (HSTP.out.trans (stp_no HNR.out HNB.out)) HLT.out)
        have hbe := HML.out.be
        have HBE := Lib.hid hbe
        clear hbe HSTP HI HXS HHX HT HPS HEB
        go_quiet (fail)
        go_wp2_with (fail)
        refine bodyPost_ret (v := .tuple #[.slice none 0 0, .bool false]) (by simp [results, Try.results27, go_sem]) rfl ⟨below_drewN HBE.out _, .inl ⟨HNO.out, rfl⟩⟩
      subst hq1
      by_cases hq1 : dk = ok
      rotate_left
      · have hqq : (dk == ok) = false := by simpa using hq1
        have HNR := Lib.hid (show ¬ s.rets ⟨(tn : Int), true, ⟨dc, ok, oh, ov⟩, ⟨ae, ao, ak, av, an, ap⟩⟩ from fun x => by have h1 := x.2.2; rw [HSX.out, ← HMN.out] at h1; cases h1; exact hq1 rfl)
        clear hq1
        have HNO := Lib.hid (mt_none (HSTP.out.trans (stp_no HNR.out HNB.out)) HLT.out)
        have hbe := HML.out.be
        have HBE := Lib.hid hbe
        clear hbe HSTP HI HXS HHX HT HPS HEB
        go_quiet (fail)
        go_wp2_with (fail)
        refine bodyPost_ret (v := .tuple #[.slice none 0 0, .bool false]) (by simp [results, Try.results27, go_sem]) rfl ⟨below_drewN HBE.out _, .inl ⟨HNO.out, rfl⟩⟩
      subst hq1
      by_cases hq1 : dh = oh
      rotate_left
      · have hqq : (dh == oh) = false := by simpa using hq1
        have HNR := Lib.hid (show ¬ s.rets ⟨(tn : Int), true, ⟨dc, dk, oh, ov⟩, ⟨ae, ao, ak, av, an, ap⟩⟩ from fun x => by have h1 := x.2.2; rw [HSX.out, ← HMN.out] at h1; cases h1; exact hq1 rfl)
        clear hq1
        have HNO := Lib.hid (mt_none (HSTP.out.trans (stp_no HNR.out HNB.out)) HLT.out)
        have hbe := HML.out.be
        have HBE := Lib.hid hbe
        clear hbe HSTP HI HXS HHX HT HPS HEB
        go_quiet (fail)
        go_wp2_with (fail)
        refine bodyPost_ret (v := .tuple #[.slice none 0 0, .bool false]) (by simp [results, Try.results27, go_sem]) rfl ⟨below_drewN HBE.out _, .inl ⟨HNO.out, rfl⟩⟩
      subst hq1
      by_cases hq1 : dv = ov
      rotate_left
      · have hqq : (dv == ov) = false := by simpa using hq1
        have HNR := Lib.hid (show ¬ s.rets ⟨(tn : Int), true, ⟨dc, dk, dh, ov⟩, ⟨ae, ao, ak, av, an, ap⟩⟩ from fun x => by have h1 := x.2.2; rw [HSX.out, ← HMN.out] at h1; cases h1; exact hq1 rfl)
        clear hq1
        have HNO := Lib.hid (mt_none (HSTP.out.trans (stp_no HNR.out HNB.out)) HLT.out)
        have hbe := HML.out.be
        have HBE := Lib.hid hbe
        clear hbe HSTP HI HXS HHX HT HPS HEB
        go_quiet (fail)
        go_wp2_with (fail)
        refine bodyPost_ret (v := .tuple #[.slice none 0 0, .bool false]) (by simp [results, Try.results27, go_sem]) rfl ⟨below_drewN HBE.out _, .inl ⟨HNO.out, rfl⟩⟩
      subst hq1
      go_quiet (fail)
      go_wp2_with (fail)
      have hk := below_drewN (Below.refl W2.heap.size W2) nq
      have HML3 := Lib.hid (HML.out.keep hk)
      have HEB3 := Lib.hid (HEB.out.keep hk)
      have HPS3 := Lib.hid (HPS.out.below hk)
      have c2 := pkc hk HC.out.1
      have c7 := pkc hk HC.out.2.1
      have c8 := pkc hk HC.out.2.2.1
      have c9 := pkc hk HC.out.2.2.2.1
      have c10 := pkc hk HC.out.2.2.2.2.1
      have c11 := pkc hk HC.out.2.2.2.2.2.1
      have c12 := pkc hk HC.out.2.2.2.2.2.2
      have q6 := HEB3.out.at_ 6 _ rfl
      have q7 := HEB3.out.at_ 7 _ rfl
      have q8 := HEB3.out.at_ 8 _ rfl
      have q9 := HEB3.out.at_ 9 _ rfl
      have q10 := HEB3.out.at_ 10 _ rfl
      have q11 := HEB3.out.at_ 11 _ rfl
      obtain ⟨gl', e', _, _, hfz⟩ := HML3.out.row.at HM.out
      cases e'
      have f2 := hfz (i * 13 + 2)
      have f7 := hfz (i * 13 + 7)
      have f8 := hfz (i * 13 + 8)
      have f9 := hfz (i * 13 + 9)
      have f10 := hfz (i * 13 + 10)
      have f11 := hfz (i * 13 + 11)
      have f12 := hfz (i * 13 + 12)
      clear hk c3 c4 c5 c6 q0 q1 q2 q3 q4 q5 HML HEB HPS HC HFR hlast2 hfz
      generalize W2.drewN nq = w3 at HML3 HEB3 HPS3 c2 c7 c8 c9 c10 c11 c12 q6 q7 q8 q9 q10 q11 f2 f7 f8 f9 f10 f11 f12 ⊢
      have HYR := Lib.hid (HSTP.out.trans (stp_ret HT.out (show s.rets ⟨(tn : Int), true, ⟨dc, dk, dh, dv⟩, ⟨ae, ao, ak, av, an, ap⟩⟩ from ⟨rfl, by rw [HSX.out]; omega, by rw [HSX.out, ← HMN.out]⟩)))
      clear HSTP HNB HI
      have hgw : ¬ gl = wr.heap.size := fun e => by have := HLO.out gl rfl; omega
      have hgw2 : ¬ wr.heap.size = gl := fun e => hgw e.symm
      clear hw3 hw4 hp0
      go_region
      have HF := Lib.hid (HML3.out.row.toAns HM.out (n : Int) ⟨ae, ao, ak, av, an, ap⟩ pa pc HPS3.out (fun hp b' o' sp e => by
        have := plt HP0.out hp e
        have := HGL.out
        exact ⟨by omega, by omega⟩))
      unfold W7 at HF
      dsimp only at HF
      have r0 := (HEB3.out.only HF.out.2 hgw2).at_ 0 _ rfl
      have hWT := HML3.out.wt.only HF.out.2 (fun x => by have := HGL.out; omega)
      have z0 := hWT.at_ tn _ (ntv_get (by rw [(minv N n s HML3.out.m).len]; exact htn))
      have zf := hWT.fr tn
      clear hWT
      have HRT := Lib.hid (HML3.out.ret HM.out HSX.out HMN.out.symm htn _ pa pc HP0.out rfl HYR.out HGL.out HF.out.1 HF.out.2)
      clear c2 c7 c8 c9 c10 c11 c12 q6 q7 q8 q9 q10 q11 f2 f7 f8 f9 f10 f11 f12 HF
      rw [show i * 13 + 7 + 1 = i * 13 + 8 from rfl, show i * 13 + 7 + 2 = i * 13 + 9 from rfl, show i * 13 + 7 + 3 = i * 13 + 10 from rfl, show i * 13 + 7 + 4 = i * 13 + 11 from rfl, show i * 13 + 7 + 5 = i * 13 + 12 from rfl]
      have hgi : M.length = (M.set i ⟨⟨ct, cf, (n : Int), ⟨dc, dk, dh, dv⟩, ⟨ae, ao, ak, av, an, ap⟩⟩, pa, pc⟩).length := by rw [List.length_set]
      generalize ((((((((w3.setCell ⟨gl, i * 13 + 2, none⟩ (.int .i64 (n : Int))).setCell ⟨gl, i * 13 + 7, none⟩ (.int .i64 ae)).setCell ⟨gl, i * 13 + 8, none⟩ (.bool ao)).setCell ⟨gl, i * 13 + 9, none⟩ (.int .i64 ak)).setCell ⟨gl, i * 13 + 10, none⟩ (.int .i64 av)).setCell ⟨gl, i * 13 + 11, none⟩ (.int .i64 an)).setCell ⟨gl, i * 13 + 12, none⟩ (.slice pa ap.length pc))) = w6 at r0 z0 zf HRT ⊢
      go_wp2_with (fail)
      go_roundw
      case rel => exact ⟨n + 1, _, _, lc, _, by have := HLT.out; omega, by go_num, by rw [← hgi], HRT.out.keep ((Below.refl _ _).drew)⟩
      case measure => have := HLT.out; simp [intOf]; omega
end Go.Proofs.Ytadfnbmogobopaa
