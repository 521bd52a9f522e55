/- How many pairs a tree has whose reading is of some bulk; each leaf set to stat nought. No condition: definitions and lemmas. -/
import Derived.Test.YtpdliokpbnpppaaExB
import Derived.Test.YtpdliokpbnpppaaRows
namespace Go.Proofs.Ytpdliokpbnpppaa
open Go.RowKit Go.Deep Go.ChangeShapes Go.WideShapes
set_option linter.all false
set_option maxRecDepth 20000

theorem bk_one {H : Type} (d : DataW H) : 1 ≤ Rows.uptoBulk d := by
  cases d with
  | lit l => cases l <;> simp [Rows.uptoBulk]
  | nil => simp [Rows.uptoBulk]
  | ptr d => simp [Rows.uptoBulk]
  | slice elems spare => simp [Rows.uptoBulk]
  | agg parts => simp [Rows.uptoBulk]
  | iface t d => simp [Rows.uptoBulk]
  | map entries => simp [Rows.uptoBulk]
  | held h => simp [Rows.uptoBulk]
theorem bk_len {H : Type} (l : List (DataW H)) : l.length ≤ Rows.uptoBulkAll l := by
  induction l with
  | nil => simp [Rows.uptoBulkAll]
  | cons x r ih => have := bk_one x; simp only [Rows.uptoBulkAll, List.length_cons]; omega
theorem bk_part {H : Type} {d : DataW H} {l : List (DataW H)} (h : d ∈ l) : Rows.uptoBulk d ≤ Rows.uptoBulkAll l := by
  induction l with
  | nil => cases h
  | cons x r ih =>
    simp only [Rows.uptoBulkAll]
    cases List.mem_cons.1 h with
    | inl e => subst e; omega
    | inr e => have := ih e; omega
/-- All pairs of all nodes. -/
def bsum : List Nd → Nat
  | [] => 0
  | n :: N => n.p.length + bsum N
theorem bsum_mem {n : Nd} : ∀ {N : List Nd}, n ∈ N → n.p.length ≤ bsum N
  | m :: N, h => by
    rcases List.mem_cons.1 h with rfl | h
    · simp only [bsum]; omega
    · have := bsum_mem h; simp only [bsum]; omega
theorem bsum_bulk {H : Type} : ∀ (N : List Nd) (l : List (DataW H)), N.length = l.length → (∀ (i : Nat) (n : Nd) (d : DataW H), N[i]? = some n → l[i]? = some d → n.p.length ≤ Rows.uptoBulk d) → bsum N ≤ Rows.uptoBulkAll l
  | [], l, _, _ => Nat.zero_le _
  | n :: N, [], h, _ => by cases h
  | n :: N, d :: l, h, hh => by
    have h1 := hh 0 n d rfl rfl
    have h2 := bsum_bulk N l (by simpa using h) (fun i m e h3 h4 => hh (i + 1) m e (by simpa using h3) (by simpa using h4))
    simp only [bsum, Rows.uptoBulkAll]
    omega
/-- Pairs of some leaves, each once, are not more. -/
theorem bsum_set {N : List Nd} : ∀ {i : Nat} {n m : Nd}, N[i]? = some n → m.p = [] → bsum (N.set i m) + n.p.length = bsum N := by
  induction N with
  | nil => intro i n m h; simp at h
  | cons x N ih =>
    intro i n m h hm
    cases i with
    | zero => simp at h; subst h; simp [bsum, hm]; omega
    | succ i => have := ih (i := i) (n := n) (m := m) (by simpa using h) hm; simp only [List.set_cons_succ, bsum]; omega
theorem allP_bsum : ∀ {l : List Nat} {N : List Nd}, l.Nodup → (allP N l).length ≤ bsum N
  | [], N, _ => Nat.zero_le _
  | i :: l, N, h => by
    have hc : allP N (i :: l) = (nd N i).p ++ allP N l := rfl
    rw [hc, List.length_append]
    obtain ⟨h1, h2⟩ := List.nodup_cons.1 h
    rcases hi : N[i]? with _ | n
    · have e : nd N i = Nd.z := by simp [nd, hi]
      have := allP_bsum (N := N) h2
      rw [e]; simpa [Nd.z] using this
    · have e : nd N i = n := by simp [nd, hi]
      have h3 := allP_bsum (N := N.set i Nd.z) h2
      have h4 := bsum_set (m := Nd.z) hi rfl
      have h5 : allP (N.set i Nd.z) l = allP N l := by
        unfold allP
        congr 1
        refine List.map_congr_left fun j hj => ?_
        have hne : i ≠ j := fun e => h1 (e ▸ hj)
        simp [nd, List.getElem?_set_ne hne]
      rw [h5] at h3
      rw [e]; omega
section
variable {H : Type} {enc : TypeId × Value → H} {w : World} {fuel : Nat} {x : DataW H × List MemPlace}
theorem bk_pairs {a : Option Addr} {len cap : Nat} (h : DataW.trod enc Try.prog w 0 (fun _ => true) true fuel 37 [.slice a len cap] = some x) : len ≤ Rows.uptoBulk x.1 := by
  rcases open_slice Try.underlying37 h with ⟨hcs, _⟩ | ⟨y, len', cap', m, n, D, Pl, hcs, _, hl, hm, hmm, hx, _⟩
  · simp at hcs
    omega
  · simp at hcs
    obtain ⟨_, rfl, rfl⟩ := hcs
    subst hx
    have := bk_len ((List.range len).map D)
    simp only [List.length_map, List.length_range] at this
    simp only [Rows.uptoBulk]
    omega
theorem bk_node {r : Bool} {k a b s : Int} {pa : Option Addr} {len pc : Nat} (h : DataW.trod enc Try.prog w 0 (fun _ => true) true fuel 39 [.bool r, .int .i64 k, .int .i64 a, .int .i64 b, .slice pa len pc, .int .i64 s] = some x) : len ≤ Rows.uptoBulk x.1 := by
  obtain ⟨ys, n, _, hx, hlen, hyl, hf⟩ := DataW.trod_struct Try.underlying39 h
  have hone4 : Try.prog.cellsOf 37 = 1 := by kernel_rfl
  obtain ⟨y4, e4⟩ : ∃ y, ys[4]? = some y := ⟨_, List.getElem?_eq_getElem (by rw [hyl]; exact (by decide : 4 < 6))⟩
  have g4 : DataW.trod enc Try.prog w 0 (fun _ => true) true n 37 (([.bool r, .int .i64 k, .int .i64 a, .int .i64 b, .slice pa len pc, .int .i64 s].drop 4).take (Try.prog.cellsOf 37)) = ys[4]? := hf 4 _ rfl
  rw [hone4, e4] at g4
  have h1 := bk_pairs (by simpa using g4)
  have h2 : y4.1 ∈ ys.map (·.1) := List.mem_map.2 ⟨y4, List.mem_of_getElem? e4, rfl⟩
  have h3 := bk_part h2
  rw [hx]
  simp only [Rows.uptoBulk]
  omega
theorem bk_nodes {a : Option Addr} {cap : Nat} {N : List Nd} (h : DataW.trod enc Try.prog w 0 (fun _ => true) true fuel 23 [.slice a N.length cap] = some x) (hN : Ns w a cap N) : bsum N ≤ Rows.uptoBulk x.1 := by
  have h6 : Try.prog.cellsOf 39 = 6 := by kernel_rfl
  rcases open_slice Try.underlying23 h with ⟨hcs, _⟩ | ⟨y, len, cap', m, n, D, Pl, hcs, hbb, hl, hm, hmm, hx, hi⟩
  · simp at hcs
    have : N = [] := hcs.2.1
    subst this
    exact Nat.zero_le _
  · simp at hcs
    obtain ⟨ha, hlen, rfl⟩ := hcs
    subst ha
    subst hx
    rw [h6] at hi
    have hp : bsum N ≤ Rows.uptoBulkAll ((List.range len).map D) := by
      refine bsum_bulk N _ (by simp [hlen]) fun i nn d hn hd => ?_
      obtain ⟨hil, rfl⟩ : i < len ∧ D i = d := by
        rcases Nat.lt_or_ge i len with hil | hil
        · rw [List.getElem?_map, List.getElem?_range hil] at hd; simp at hd; exact ⟨hil, hd⟩
        · rw [List.getElem?_eq_none (by simpa using hil)] at hd; cases hd
      obtain ⟨cs', hc, ht⟩ := hi i (by rw [hmm, if_pos rfl]; omega)
      obtain ⟨_, hcl, hat⟩ := World.cells?_some hc
      obtain ⟨b, o, pa, pc, hb, hna⟩ := hN.2.2 i nn hn
      have hb' : y = ⟨b, o, none⟩ := by simpa using hb
      subst hb'
      have at_ : ∀ j, j < 6 → w.cell? ⟨b, o + i * 6 + j, none⟩ = cs'[j]? := fun j hj => by
        have := hat j hj
        rwa [add_lit, add_lit] at this
      have hcs : cs' = [.bool nn.r, .int .i64 nn.k, .int .i64 nn.a, .int .i64 nn.b, .slice pa nn.p.length pc, .int .i64 nn.s] := by
        refine List.ext_getElem? fun j => ?_
        rcases Nat.lt_or_ge j 6 with hj | hj
        · rw [← at_ j hj]
          rcases j with _ | _ | _ | _ | _ | _ | j
          · exact hna.c0
          · exact hna.c1
          · exact hna.c2
          · exact hna.c3
          · exact hna.c4
          · exact hna.c5
          · omega
        · rw [List.getElem?_eq_none (by omega), List.getElem?_eq_none (by simpa using hj)]
      rw [hcs] at ht
      exact bk_node ht
    simp only [Rows.uptoBulk]
    omega
theorem bk_tree {t : Int} {a : Option Addr} {cap : Nat} {N : List Nd} (h : DataW.trod enc Try.prog w 0 (fun _ => true) true fuel 25 [.int .i64 t, .slice a N.length cap] = some x) (hN : Ns w a cap N) : bsum N ≤ Rows.uptoBulk x.1 := by
  obtain ⟨ys, n, _, hx, hlen, hyl, hf⟩ := DataW.trod_struct Try.underlying25 h
  have hone4 : Try.prog.cellsOf 23 = 1 := by kernel_rfl
  obtain ⟨y1, e1⟩ : ∃ y, ys[1]? = some y := ⟨_, List.getElem?_eq_getElem (by rw [hyl]; exact (by decide : 1 < 2))⟩
  have g1 : DataW.trod enc Try.prog w 0 (fun _ => true) true n 23 (([.int .i64 t, .slice a N.length cap].drop 1).take (Try.prog.cellsOf 23)) = ys[1]? := hf 1 _ rfl
  rw [hone4, e1] at g1
  have h1 := bk_nodes (by simpa using g1) hN
  have h3 := bk_part (List.mem_map.2 ⟨y1, List.mem_of_getElem? e1, rfl⟩ : y1.1 ∈ ys.map (·.1))
  rw [hx]
  simp only [Rows.uptoBulk]
  omega
end
/-- The first leaves at stat nought. -/
def z0N (N : List Nd) (l : List Nat) : List Nd := stN (fun _ => 0) l N
theorem z0_step {N : List Nd} {s : Sh} {t : Int} (hT : Tr N s t) {j i : Nat} (hi : s.lvs[j]? = some i) :
    SetO (z0N N (s.lvs.take j)) t i (nd (z0N N (s.lvs.take j)) i).p 0 t (z0N N (s.lvs.take (j + 1))) true := by
  have hm : i ∈ s.lvs := List.mem_of_getElem? hi
  have h1 := tr_stats (f := fun _ => 0) (fun x => by omega) hT (l := s.lvs.take j) (fun k hk => List.mem_of_mem_take hk)
  have h2 := tr_stat h1.1 hm (st := 0) (by omega) (by omega)
  have hlt : i < (z0N N (s.lvs.take j)).length := h1.1.hg.lt i (lvs_pre _ _ hm)
  have hlf := h1.1
  refine .inl ⟨rfl, rfl, ⟨s, h1.1⟩, i, _, rfl, List.getElem?_eq_getElem hlt, ?_, ?_, s, ?_⟩
  · obtain ⟨n, lo', hi', hn, ho, -⟩ := hangs_leaf hlf.hg i (lvs_pre _ _ hm)
    have hf := lf_false hlf.hg hm hn
    have hn2 := (List.getElem?_eq_getElem hlt).symm.trans hn
    cases hn2
    exact hf
  · rw [take_snoc hi]
    exact stN_snoc
  · rw [take_snoc hi]
    have : z0N N (s.lvs.take j ++ [i]) = (z0N N (s.lvs.take j)).set i ⟨false, 0, 0, 0, (nd (z0N N (s.lvs.take j)) i).p, 0⟩ := stN_snoc
    rw [this]
    exact h2
theorem z0_tr {N : List Nd} {s : Sh} {t : Int} (hT : Tr N s t) (i : Nat) : Tr (z0N N (s.lvs.take i)) s t := (tr_stats (f := fun _ => 0) (fun x => by omega) hT (l := s.lvs.take i) (fun k hk => List.mem_of_mem_take hk)).1
theorem z0_all {N : List Nd} {s : Sh} {t : Int} (hT : Tr N s t) {i : Nat} {m : List Nat} : allP (z0N N (s.lvs.take i)) m = allP N m := (tr_stats (f := fun _ => 0) (fun x => by omega) hT (l := s.lvs.take i) (fun k hk => List.mem_of_mem_take hk)).2.1 m
/-- A tree while calls take away: so many leaves, all of stat nought. -/
structure JS (L : List Pr) (k : Int) (n j : Nat) (N : List Nd) (t : Int) (s : Sh) : Prop where
  t : Tr N s t
  l : s.lvs.length = max 1 (n - j)
  z : j < n → ∀ i ∈ s.lvs, (nd N i).s = 0
  c : N.length ≤ 60 + 2 * j
  p : allP N s.lvs = if j = 0 then L else cutL L k
theorem JS.zero {N : List Nd} {s : Sh} {t : Int} (hT : Tr N s t) (hc : N.length ≤ 60) (k : Int) : JS (allP N s.lvs) k s.lvs.length 0 (z0N N s.lvs) t s := by
  have h1 := tr_stats (f := fun _ => 0) (fun x => by omega) hT (l := s.lvs) (fun k hk => hk)
  have hnd := lvs_nodup hT.nd
  have hlt : ∀ i ∈ s.lvs, i < N.length := fun i hi => hT.hg.lt i (lvs_pre _ _ hi)
  refine ⟨h1.1, by have := lvs_pos s; omega, fun _ i hi => ?_, by have := h1.2.2; unfold z0N; omega, by rw [if_pos rfl]; exact h1.2.1 _⟩
  unfold z0N
  rw [stN_nd hnd hlt, if_pos hi]
theorem cutL_two (L : List Pr) (k : Int) : cutL (cutL L k) k = cutL L k := by unfold cutL; rw [List.filter_filter]; simp
theorem JS.step {L : List Pr} {k : Int} {n j : Nat} {N : List Nd} {t : Int} {s : Sh} (h : JS L k n j N t s) (hj : j < n) {hi v : Int} {Q : List Nd} (hD : DoS N s 1000 0 0 1 0 ⟨3, k, hi, v⟩ Q) : ∃ s', JS L k n (j + 1) Q 0 s' := by
  obtain ⟨s', h1, h2, h3⟩ := doS_is h.t hD
  obtain ⟨h4, h5⟩ := jn_step h.t h.l h.z hj (by decide) (by decide) hD h1
  refine ⟨s', h1, h4, h5, by have := h.c; omega, ?_⟩
  rw [h2, if_neg (by omega), h.p]
  show doP _ 3 k v = _
  have hs := (allP_srt h.t.hg).1
  rw [h.p] at hs
  rw [doP_cut hs ⟨by decide, by decide⟩ k v rfl]
  split
  · rfl
  · exact cutL_two L k
theorem JS.le {L : List Pr} {k : Int} {n j : Nat} {N : List Nd} {t : Int} {s : Sh} (h : JS L k n j N t s) : (allP N s.lvs).length ≤ L.length := by
  rw [h.p]
  split
  · exact Nat.le_refl _
  · exact cutL_len L k
theorem JS.err {L : List Pr} {k : Int} {n j : Nat} {N : List Nd} {t : Int} {s : Sh} (h : JS L k n j N t s) (i : Int) : ∃ ok x y m, doA (allP N s.lvs) 3 k i = ⟨0, ok, x, y, m, []⟩ := by
  rw [doA_had (allP_srt h.t.hg).1 ⟨by decide, by decide⟩ k i (by decide)]
  exact ⟨_, _, _, _, rfl⟩
theorem JS.small {L : List Pr} {k : Int} {n j : Nat} {N : List Nd} {t : Int} {s : Sh} (h : JS L k n j N t s) (hL : L.length ≤ 1100000) (hn : n ≤ 60) (hj : j ≤ n) : Small N :=
  tr_small h.t (Nat.le_trans h.le hL) (by have := h.c; omega)
/-- What stands below a box stays. -/
theorem ns_rt {W : World} {q : Nat} {x : Int} {a' : Option Addr} {n' c' : Nat} (hq : Tq W q x a' n' c') {a : Option Addr} {cap : Nat} {N : List Nd} (h : Ns W a cap N) (u v : Value) : Ns ((W.setCell ⟨q, 0, none⟩ u).setCell ⟨q, 1, none⟩ v) a cap N := by
  refine ⟨h.1, h.2.1, fun i n hn => ?_⟩
  obtain ⟨b, o, pa, pc, e, hna⟩ := h.2.2 i n hn
  have hb : b ≠ q := fun e => by subst e; exact hq.nodes hna.c0
  have st : ∀ {j : Nat} {x : Value}, W.cell? ⟨b, j, none⟩ = some x → ((W.setCell ⟨q, 0, none⟩ u).setCell ⟨q, 1, none⟩ v).cell? ⟨b, j, none⟩ = some x := fun hc => setO (setO hc (.inl (fun e => hb e.symm))) (.inl (fun e => hb e.symm))
  refine ⟨b, o, pa, pc, e, st hna.c0, st hna.c1, st hna.c2, st hna.c3, st hna.c4, st hna.c5, hna.ps.1, hna.ps.2.1, fun k p hp => ?_, hna.ps.2.2.2⟩
  obtain ⟨b', o', e', p0, p1⟩ := hna.ps.2.2.1 k p hp
  have hb' : b' ≠ q := fun e => by subst e; exact hq.pairs p0 p1
  exact ⟨b', o', e', setO (setO p0 (.inl (fun e => hb' e.symm))) (.inl (fun e => hb' e.symm)), setO (setO p1 (.inl (fun e => hb' e.symm))) (.inl (fun e => hb' e.symm))⟩
theorem prs_rt {W : World} {q : Nat} {x : Int} {a' : Option Addr} {n' c' : Nat} (hq : Tq W q x a' n' c') {pa : Option Addr} {pc : Nat} {p : List Pr} (hp : Prs W pa pc p) (u v : Value) : Prs ((W.setCell ⟨q, 0, none⟩ u).setCell ⟨q, 1, none⟩ v) pa pc p := by
  refine ⟨hp.1, hp.2.1, fun k y hy => ?_, hp.2.2.2⟩
  obtain ⟨b', o', e', p0, p1⟩ := hp.2.2.1 k y hy
  have hb' : b' ≠ q := fun e => by subst e; exact hq.pairs p0 p1
  exact ⟨b', o', e', setO (setO p0 (.inl (fun e => hb' e.symm))) (.inl (fun e => hb' e.symm)), setO (setO p1 (.inl (fun e => hb' e.symm))) (.inl (fun e => hb' e.symm))⟩
theorem ri_rt {W : World} {q : Nat} {b : Nat} {o : Nat} {cap : Nat} {l : List Int} (h : RI W (some ⟨b, o, none⟩) cap l) (hb : b ≠ q) (u v : Value) : RI ((W.setCell ⟨q, 0, none⟩ u).setCell ⟨q, 1, none⟩ v) (some ⟨b, o, none⟩) cap l := by
  refine ⟨h.1, h.2.1, fun n x hx => ?_⟩
  obtain ⟨b', o', e', p0⟩ := h.2.2 n x hx
  cases e'
  exact ⟨b, o, rfl, setO (setO p0 (.inl (fun e => hb e.symm))) (.inl (fun e => hb e.symm))⟩
theorem tq_rt {W : World} {q : Nat} {x : Int} {a : Option Addr} {n c : Nat} (h : Tq W q x a n c) (x' : Int) (a' : Option Addr) (n' c' : Nat) : Tq ((W.setCell ⟨q, 0, none⟩ (.int .i64 x')).setCell ⟨q, 1, none⟩ (.slice a' n' c')) q x' a' n' c' := by
  refine Tq.set1 (a := a) (n := n) (c := c) ?_ a' n' c'
  unfold Tq World.setCell
  simp only [Array.getElem?_modify]
  rw [if_pos trivial, show W.heap[q]? = _ from h]; rfl
theorem ri_atK {W : World} {ao : Option Addr} {c : Nat} {l : List Nat} (h : RI W ao c (preI l)) {j i : Nat} (hj : l[j]? = some i) : ∃ b o, ao = some ⟨b, o, none⟩ ∧ W.cell? ⟨b, o + j, none⟩ = some (.int .i64 (i : Int)) := h.2.2 j _ (by unfold preI; rw [List.getElem?_map, hj]; rfl)
/-- The tree's box in the first loop; in the second. -/
structure J1 (w : World) (t : Int) (lb lo lc : Nat) (ls : List Nat) (a : Option Addr) (cap : Nat) (N : List Nd) (W : World) : Prop where
  q : Tq W w.heap.size t a N.length cap
  n : Ns W a cap N
  r : RI W (some ⟨lb, lo, none⟩) lc (preI ls)
  b : Below w.heap.size w W
theorem J1.keep {w : World} {t : Int} {lb lo lc : Nat} {ls : List Nat} {a : Option Addr} {cap : Nat} {N : List Nd} {W W' : World} (h : J1 w t lb lo lc ls a cap N W) (hb : Below W.heap.size W W') : J1 w t lb lo lc ls a cap N W' := ⟨h.q.keep hb, h.n.keep hb, h.r.below hb, bel2 h.b hb⟩
theorem J1.put {w : World} {t : Int} {lb lo lc : Nat} {ls : List Nat} {a : Option Addr} {cap : Nat} {N : List Nd} {W : World} (h : J1 w t lb lo lc ls a cap N W) (hl : lb ≠ w.heap.size) {a' : Option Addr} {cap' : Nat} {Q : List Nd} (hn : Ns W a' cap' Q) :
    J1 w t lb lo lc ls a' cap' Q ((W.setCell ⟨w.heap.size, 0, none⟩ (.int .i64 t)).setCell ⟨w.heap.size, 1, none⟩ (.slice a' Q.length cap')) :=
  ⟨tq_rt h.q _ _ _ _, ns_rt h.q hn _ _, ri_rt h.r hl _ _, ret_below h.b (Nat.le_refl _) _ _⟩
/-- What Set told stands in a box of its own. -/
structure F1 (w : World) (t : Int) (lb lo lc : Nat) (ls : List Nat) (a : Option Addr) (cap : Nat) (N : List Nd) (q : Nat) (a9 : Option Addr) (c9 : Nat) (Q : List Nd) (W : World) : Prop where
  j : J1 w t lb lo lc ls a cap N W
  z : Tq W q t a9 Q.length c9
  n : Ns W a9 c9 Q
structure J2 (w : World) (pb : Nat) (aw : Option Addr) (cw : Nat) (L : List Pr) (t : Int) (a : Option Addr) (cap : Nat) (N : List Nd) (W : World) : Prop where
  q : Tq W w.heap.size t a N.length cap
  n : Ns W a cap N
  p : Prs W aw cw L
  o : Bk W pb [.int .i64 1000, .int .i64 0, .int .i64 0, .int .i64 1, .int .i64 0]
  lt : w.heap.size < pb
  b : Below w.heap.size w W
theorem J2.keep {w : World} {pb : Nat} {aw : Option Addr} {cw : Nat} {L : List Pr} {t : Int} {a : Option Addr} {cap : Nat} {N : List Nd} {W W' : World} (h : J2 w pb aw cw L t a cap N W) (hb : Below W.heap.size W W') : J2 w pb aw cw L t a cap N W' := ⟨h.q.keep hb, h.n.keep hb, h.p.below hb, h.o.keep hb, h.lt, bel2 h.b hb⟩
theorem J2.put {w : World} {pb : Nat} {aw : Option Addr} {cw : Nat} {L : List Pr} {t : Int} {a : Option Addr} {cap : Nat} {N : List Nd} {W : World} (h : J2 w pb aw cw L t a cap N W) (t' : Int) {a' : Option Addr} {cap' : Nat} {Q : List Nd} (hn : Ns W a' cap' Q) :
    J2 w pb aw cw L t' a' cap' Q ((W.setCell ⟨w.heap.size, 0, none⟩ (.int .i64 t')).setCell ⟨w.heap.size, 1, none⟩ (.slice a' Q.length cap')) :=
  ⟨tq_rt h.q _ _ _ _, ns_rt h.q hn _ _, prs_rt h.q h.p _ _, (h.o.other _ (by have := h.lt; omega)).other _ (by have := h.lt; omega), h.lt, ret_below h.b (Nat.le_refl _) _ _⟩
theorem mx_no {a b n j : Nat} (h : a = max 1 (n - j) ∧ b = max 1 (n - (j + 1))) (ha : a ≤ 60) : decide ((if 1 < IntKind.i64.wrap ((a : Int) - 1) then IntKind.i64.wrap ((a : Int) - 1) else 1) < (b : Int)) = false := by
  have hw : IntKind.i64.wrap ((a : Int) - 1) = (a : Int) - 1 := by rw [IntKind.wrap_i64]; omega
  rw [hw]
  apply decide_eq_false
  split <;> omega
end Go.Proofs.Ytpdliokpbnpppaa

