/- Rows of nodes that share their pairs: appends, slices.Grow, Concat, Clone of nodes. No condition: lemmas. -/
import Derived.Test.YtijepfabkalcoaaTrR
import Derived.OwnWalk
namespace Go.Proofs.Ytijepfabkalcoaa
open Go.RowKit
set_option linter.all false

theorem cellsN_at {l : List RN} {j : Nat} {u : Value} (h : (cellsN l)[j]? = some u) : ∃ m, l[j / 6]? = some m ∧ (cellN m)[j % 6]? = some u := by
  have hj := (List.getElem?_eq_some_iff.1 h).1
  rw [cellsN_len] at hj
  have hi : j / 6 < l.length := by omega
  obtain ⟨m, hm⟩ : ∃ m, l[j / 6]? = some m := ⟨_, List.getElem?_eq_getElem hi⟩
  obtain ⟨v, hv⟩ : ∃ v, (cellN m)[j % 6]? = some v := ⟨_, List.getElem?_eq_getElem (by show _ < 6; omega)⟩
  have e := cellsN_get l _ m hm _ v hv
  rw [show j / 6 * 6 + j % 6 = j by omega, h] at e
  cases e
  exact ⟨m, hm, hv⟩
/-- Nodes that an append takes. -/
structure SrcN (w : World) (a : Option Addr) (cap : Nat) (ms : List RN) : Prop where
  s : Source w (.slice a ms.length cap) ms.length (cellsN ms)
  p : ∀ m ∈ ms, Prs w m.a m.c m.n.p
theorem Source.keep {w w' : World} {x : Value} {m : Nat} {news : List Value} (h : Source w x m news) (hb : Below w.heap.size w w') : Source w' x m news := by
  rcases h with h | ⟨ad, c, e, h⟩
  · exact .inl h
  · exact .inr ⟨ad, c, e, fun j u hj => kc hb (h j u hj)⟩
theorem SrcN.keep {w w' : World} {a : Option Addr} {cap : Nat} {ms : List RN} (h : SrcN w a cap ms) (hb : Below w.heap.size w w') : SrcN w' a cap ms := ⟨Source.keep h.s hb, fun m hm => (h.p m hm).below hb⟩
theorem ns_src {w : World} {a : Option Addr} {cap : Nat} {N : List Nd} (h : Ns w a cap N) (hp : 0 < N.length) : ∃ ms : List RN, ms.map (fun m => m.n) = N ∧ SrcN w a cap ms := by
  have hex : ∀ i : Nat, ∃ p : Option Addr × Nat, ∀ n, N[i]? = some n → ∃ b o, a = some ⟨b, o, none⟩ ∧ NA w b (o + i * 6) p.1 p.2 n := fun i => by
    by_cases hi : i < N.length
    · obtain ⟨b, o, pa, pc, e, hna⟩ := h.2.2 i _ (List.getElem?_eq_getElem hi)
      refine ⟨(pa, pc), fun n hn => ?_⟩
      rw [List.getElem?_eq_getElem hi] at hn
      cases hn
      exact ⟨b, o, e, hna⟩
    · refine ⟨(none, 0), fun n hn => ?_⟩
      rw [List.getElem?_eq_none (by omega)] at hn
      cases hn
  obtain ⟨f, hf⟩ := Classical.axiomOfChoice hex
  have hget : ∀ i, i < N.length → ((List.range N.length).map (fun i => (⟨nd N i, (f i).1, (f i).2⟩ : RN)))[i]? = some ⟨nd N i, (f i).1, (f i).2⟩ := fun i hi => by
    rw [List.getElem?_map, List.getElem?_range hi]; rfl
  have hlen : ((List.range N.length).map (fun i => (⟨nd N i, (f i).1, (f i).2⟩ : RN))).length = N.length := by rw [List.length_map, List.length_range]
  refine ⟨(List.range N.length).map (fun i => ⟨nd N i, (f i).1, (f i).2⟩), ?_, ?_, ?_⟩
  · apply List.ext_getElem?
    intro i
    by_cases hi : i < N.length
    · rw [List.getElem?_map, hget i hi, nd_get hi]; rfl
    · rw [List.getElem?_eq_none (by rw [List.length_map, hlen]; omega), List.getElem?_eq_none (by omega)]
  · obtain ⟨b, o, e, _⟩ := hf 0 _ (nd_get hp)
    subst e
    refine .inr ⟨_, cap, rfl, fun j u hj => ?_⟩
    obtain ⟨m, hm, hu⟩ := cellsN_at hj
    have hi : j / 6 < N.length := by have := (List.getElem?_eq_some_iff.1 hm).1; rw [hlen] at this; exact this
    rw [hget _ hi] at hm
    cases hm
    obtain ⟨b', o', e', hna⟩ := hf _ _ (nd_get hi)
    cases e'
    obtain ⟨c0, c1, c2, c3, c4, c5, _⟩ := hna
    have h6 : j % 6 < 6 := Nat.mod_lt _ (by decide)
    have hj6 : j = j / 6 * 6 + j % 6 := by omega
    rw [add_lit]
    generalize j % 6 = r at hu h6 hj6
    rw [hj6]
    match r, h6, hu with
    | 0, _, hu => simp [cellN] at hu; subst hu; rw [← c0]; congr 2
    | 1, _, hu => simp [cellN] at hu; subst hu; rw [← c1]; congr 2
    | 2, _, hu => simp [cellN] at hu; subst hu; rw [← c2]; congr 2
    | 3, _, hu => simp [cellN] at hu; subst hu; rw [← c3]; congr 2
    | 4, _, hu => simp [cellN] at hu; subst hu; rw [← c4]; congr 2
    | 5, _, hu => simp [cellN] at hu; subst hu; rw [← c5]; congr 2
  · intro m hm
    obtain ⟨i, hi, rfl⟩ := List.mem_map.1 hm
    have hi := List.mem_range.1 hi
    obtain ⟨b', o', e', hna⟩ := hf _ _ (nd_get hi)
    exact hna.ps

/-- A row of nodes made since a world, which may share pairs older than that world. -/
structure NdR (w0 w : World) (v : Value) (M : List RN) : Prop where
  r : NRow w (fun _ => False) v M
  own : ∀ k, v.ownBlock = some k → w0.heap.size ≤ k
  b : Below w0.heap.size w0 w
theorem NdR.keep {w0 w w' : World} {v : Value} {M : List RN} (h : NdR w0 w v M) (hb : Below w.heap.size w w') : NdR w0 w' v M := ⟨h.r.keep hb, h.own, bel2 h.b hb⟩
theorem NdR.nil (w : World) : NdR w w (.slice none 0 0) [] := ⟨NRow.nil _ _, fun k hk => by simp [Value.ownBlock] at hk, Below.refl _ _⟩
theorem NdR.lit (w : World) : NdR w (w.alloc (.cells #[] 49)) (.slice (some ⟨w.heap.size, 0, none⟩) 0 0) [] :=
  ⟨⟨⟨rfl, .inr ⟨w.heap.size, 0, #[], rfl, Nat.zero_le _, heap_alloc_new w _, Nat.zero_le _, Nat.zero_le _, rfl, rfl⟩⟩, fun k _ hq => hq, fun m hm => by cases hm⟩, fun k hk => by simp [Value.ownBlock] at hk; omega, al1 _⟩

/-- Nodes are appended onto a row of one's own. -/
theorem wpList_appnd {w0 w : World} {ops : Array Oper} {rest : List Oper} {o : Oper} {a : Act} {Q : Exit → Act → World → Prop}
    (hg : o.guard = none) (s x : Operand) (hop : o.op = Op.call { callee := Callee.builtin Builtin.append, args := #[s, x], argTypes := #[22, 22] })
    (v : Value) (M : List RN) (hs : a.eval s = v) (h : NdR w0 w v M)
    (xa : Option Addr) (xc : Nat) (ms : List RN) (xn : Nat) (hxn : xn = ms.length) (hx : a.eval x = .slice xa xn xc) (hS : SrcN w xa xc ms) (hp : ∀ m ∈ ms, Prs w0 m.a m.c m.n.p)
    (hM : M.length + ms.length ≤ 100000) (n : Nat) (hn : M.length + ms.length = n)
    (H : ∀ ao cap w', cap ≤ maxLen → n ≤ cap → NdR w0 w' (.slice ao n cap) (M ++ ms) → Only (fun k => v.ownBlock = some k) w w' → (∀ k, (Value.slice ao n cap).ownBlock = some k → v.ownBlock = some k ∨ w.heap.size ≤ k) → wpList Try.prog ops Q rest (a.put o.dst (.slice ao n cap)) w') :
    wpList Try.prog ops Q (o :: rest) a w := by
  subst hn hxn
  obtain ⟨i, hi, hz, hs1, hs2⟩ := info_parts infoNode
  refine wpList_own_append hg s x 22 hop 49 i _ 6 64 Try.underlying22 hi hz hs1 hs2 rfl (by decide) v M.length (cellsN M) hs h.r.row _ ms.length (cellsN ms) hx
    hS.s (cellsN_len ms) (fun u hu => cellsN_one ms u hu) (by unfold maxLen; omega) (by omega) ?_
  intro v' w' hown hgr hk
  obtain ⟨ao, cap, rfl, h1, h2⟩ := row_form hown
  have hO : Only (fun k => v.ownBlock = some k) w w' := (Only.refl _ _).grown hgr (fun j hj _ => hj)
  refine H ao cap w' h2 h1 ⟨⟨by simpa [cellsN_app] using hown, fun k _ hq => hq, fun x hx => ?_⟩, fun k hk' => ?_, ?_⟩ hO hk
  · have lt_of : ∀ (p : List Pr) (pa : Option Addr) (pc : Nat) (W : World), Prs W pa pc p → p ≠ [] → ∀ b o sp, pa = some ⟨b, o, sp⟩ → b < W.heap.size := fun p pa pc W hp hne b o sp e => by
      obtain ⟨q, l, rfl⟩ := List.exists_cons_of_ne_nil hne
      obtain ⟨b', o', e', c0, _⟩ := hp.2.2.1 0 q rfl
      rw [e] at e'; cases e'
      exact World.block_lt_of_cell? W _ c0
    rcases List.mem_append.1 hx with hx | hx
    · obtain ⟨p1, p2⟩ := h.r.prs x hx
      refine ⟨prs_only p1 hO (fun hp b o sp e hh => (p2 hp b o sp e).2 hh), fun hp b o sp e => ⟨(p2 hp b o sp e).1, fun hh => ?_⟩⟩
      rcases hk b hh with e' | e'
      · exact (p2 hp b o sp e).2 e'
      · have := lt_of _ _ _ _ p1 hp b o sp e; omega
    · have q1 := hS.p x hx
      have q2 := hp x hx
      refine ⟨prs_only q1 hO (fun hne b o sp e hh => ?_), fun hne b o sp e => ⟨fun hh => hh, fun hh => ?_⟩⟩
      · have := lt_of _ _ _ _ q2 hne b o sp e
        have := h.own b hh
        omega
      · have := lt_of _ _ _ _ q2 hne b o sp e
        have hsz := h.b.size
        rcases hk b hh with e' | e'
        · have := h.own b e'; omega
        · omega
  · rcases hk k hk' with e' | e'
    · exact h.own k e'
    · have := h.b.size; omega
  · exact h.b.trans (hO.below (B := w0.heap.size) (fun i hi => h.own i hi) h.b.size)

/-- What tells such a row. -/
def NdIs (w : World) (N : List Nd) (e : Ending) (w' : World) : Prop :=
  ∃ ao cp M, e = .returned (.slice ao N.length cp) ∧ M.map (fun m => m.n) = N ∧ NdR w w' (.slice ao N.length cp) M

theorem ngrow_zero (w : World) : Calls Try.prog 134 #[.slice none 0 0, .int .i64 0] w (fun e w' => e = .returned (.slice none 0 0) ∧ w' = w) := by
  go_enter Try.func134, Try.ntmps134
  go_wp2_with (fail)
  go_ret
  exact ⟨rfl, rfl⟩
set_option maxHeartbeats 1600000 in
theorem ngrow_some (n : Nat) (h0 : 0 < n) (hn : n ≤ 1000000) (w : World) : Calls Try.prog 134 #[.slice none 0 0, .int .i64 n] w (fun e w' => ∃ ao cp, e = .returned (.slice ao 0 cp) ∧ NdR w w' (.slice ao 0 cp) []) := by
  obtain ⟨G, C, hrun, hG1, hG2, hC⟩ : ∃ (G : Nat) (C : Array Value), (∀ ty, (Builtin.append_ #[22, 3] ty #[.slice none 0 0, .int .i64 (n : Int)]).run Try.prog w = .ok (.slice (some ⟨w.heap.size, 0, none⟩) n G) (w.drew.alloc (.cells C 49))) ∧ n ≤ G ∧ G ≤ maxLen ∧ C.size = G * 6 := by
    obtain ⟨i, hi, hz, hs1, hs2⟩ := info_parts infoNode
    have h1 := grownCap_ge w n 0 49
    refine ⟨_, _, fun ty => Lib.run_append_nil_zeros w 22 3 ty 49 i _ .i64 .i64 Try.underlying22 Try.underlying3 hi hz n h0 (by omega) (by omega) (by rw [hs2]; omega), h1, grownCap_le_maxLen w n 0 49 (by unfold maxLen; omega), ?_⟩
    unfold Builtin.zeroCells
    simp only [Array.size_append, Array.size_map, Array.size_range]
    have : (Value.agg #[.bool false, .int .i64 0, .int .i64 0, .int .i64 0, .slice none 0 0, .int .i64 0]).cells.size = 6 := rfl
    rw [this]
    omega
  have HX : Hid (NdR w (w.drew.alloc (.cells C 49)) (.slice (some ⟨w.heap.size, 0, none⟩) 0 G) []) := Lib.hid ⟨⟨⟨rfl, .inr ⟨w.heap.size, G, C, rfl, Nat.zero_le _, heap_alloc_new w.drew _, Nat.zero_le _, hG2, hC, by simp [cellsN]⟩⟩, fun k _ hs => hs, fun m hm => by cases hm⟩, fun k hk => by simp [Value.ownBlock] at hk; omega, ((Below.refl _ w).drew).alloc (Nat.le_refl _) _⟩
  have h1 : ¬ ((n : Int) < 0) := by omega
  have h4 : (n : Int) > 0 := by omega
  unfold maxLen at hG2
  clear hC
  go_enter Try.func134, Try.ntmps134
  go_wp2_with (at_builtin; refine Lib.wpList_append_run _ rfl _ _ _ _ rfl _ _ rfl rfl _ _ (hrun _) ?_)
  all_goals (go_ret; exact ⟨_, _, rfl, HX.out⟩)

/-- Some slices of nodes, written out as a row. -/
structure SlN where
  a : Option Addr
  cap : Nat
  ms : List RN
def PNs (w : World) (g : Nat) (rs : List SlN) : Prop := ∀ (j : Nat) (r : SlN), rs[j]? = some r → w.cell? ⟨g, j, none⟩ = some (.slice r.a r.ms.length r.cap) ∧ SrcN w r.a r.cap r.ms
theorem PNs.below {w w' : World} {g : Nat} {rs : List SlN} (h : PNs w g rs) (hb : Below w.heap.size w w') : PNs w' g rs := fun j r hr => by
  obtain ⟨h1, h2⟩ := h j r hr
  exact ⟨kc hb h1, h2.keep hb⟩
def sumN (rs : List SlN) : Nat := (rs.map (fun r => r.ms.length)).sum
def catN (rs : List SlN) : List RN := (rs.map (fun r => r.ms)).flatten
theorem sumN_take {rs : List SlN} {n : Nat} {r : SlN} (h : rs[n]? = some r) : sumN (rs.take (n + 1)) = sumN (rs.take n) + r.ms.length := by
  have e : rs.take (n + 1) = rs.take n ++ [r] := by rw [List.take_succ, h]; rfl
  rw [e]; unfold sumN; simp
theorem catN_take {rs : List SlN} {n : Nat} {r : SlN} (h : rs[n]? = some r) : catN (rs.take (n + 1)) = catN (rs.take n) ++ r.ms := by
  have e : rs.take (n + 1) = rs.take n ++ [r] := by rw [List.take_succ, h]; rfl
  rw [e]; unfold catN; simp
theorem catN_len (rs : List SlN) : (catN rs).length = sumN rs := by unfold catN sumN; rw [List.length_flatten, List.map_map]; rfl
theorem sumN_le (rs : List SlN) (n : Nat) : sumN (rs.take n) ≤ sumN rs := by
  conv => rhs; rw [← List.take_append_drop n rs]
  unfold sumN
  rw [List.map_append, List.sum_append]
  omega

set_option maxRecDepth 100000 in
set_option maxHeartbeats 6400000 in
/-- slices.Concat. -/
theorem nconcat_any (g : Nat) (rs : List SlN) (w : World) (h : PNs w g rs) (hs : sumN rs ≤ 100000) (hr : rs.length ≤ 1000) (cp : Nat) (hcp : rs.length ≤ cp) (hcm : cp ≤ 1000) :
    Calls Try.prog 124 #[.slice (some ⟨g, 0, none⟩) rs.length cp] w (fun e w' => ∃ ao cp, e = .returned (.slice ao (sumN rs) cp) ∧ NdR w w' (.slice ao (sumN rs) cp) (catN rs)) := by
  have HH := Lib.hid h
  clear h
  go_enter Try.func124, Try.ntmps124
  go_wp2_with (fail)
  go_loopw [3, 11] (fun s i wr => ∃ (n m : Nat), n ≤ rs.length ∧ i = .int .i64 n ∧ s = .int .i64 m ∧ m = sumN (rs.take n) ∧ w = wr) (fun _ i _ => rs.length - (intOf i).toNat)
  case atStart => exact ⟨0, 0, Nat.zero_le _, rfl, rfl, rfl, rfl⟩
  case round =>
    obtain ⟨n, m, hn, rfl, rfl, hm, rfl⟩ := hrel
    have hmle := sumN_le rs n
    rw [← hm] at hmle
    by_cases hlt : n < rs.length
    · obtain ⟨r, hq⟩ : ∃ r, rs[n]? = some r := ⟨_, List.getElem?_eq_getElem hlt⟩
      obtain ⟨c0, c1⟩ := HH.out n r hq
      have hst := sumN_take hq
      have hle2 := sumN_le rs (n + 1)
      rw [hst, ← hm] at hle2
      have HM := Lib.hid (hst.trans (by rw [← hm]))
      clear hq hm c1 hst
      have hneg : ¬ ((m : Int) + (r.ms.length : Int) < 0) := by omega
      go_wp2_with (fail)
      go_roundw
      case rel => exact ⟨n + 1, m + r.ms.length, by omega, by go_num, by go_num, HM.out.symm, trivial⟩
      case measure => simp [intOf]; omega
    · obtain rfl : n = rs.length := by omega
      rw [List.take_of_length_le (Nat.le_refl _)] at hm
      have HM := Lib.hid hm
      clear hm
      have cg : Calls Try.prog 134 #[.slice none 0 0, .int .i64 (m : Int)] w (fun e w' => ∃ ao cp, e = .returned (.slice ao 0 cp) ∧ NdR w w' (.slice ao 0 cp) []) := by
        rcases Nat.eq_zero_or_pos m with e | e
        · subst e
          exact (ngrow_zero w).mono (fun e w' hh => ⟨none, 0, hh.1, by rw [hh.2]; exact NdR.nil _⟩)
        · exact ngrow_some m e (by omega) w
      go_wp2_with (go_at_call 134; ((with_reducible refine cg.mono ?_); clear cg; rintro e w2 ⟨ao, cp2, rfl, hR⟩))
      go_loopw [6, 27] (fun s i wr => ∃ (n : Nat) (ao : Option Addr) (cp k : Nat), n ≤ rs.length ∧ i = .int .i64 n ∧ s = .slice ao k cp ∧ k = (catN (rs.take n)).length ∧ NdR w wr (.slice ao k cp) (catN (rs.take n))) (fun _ i _ => rs.length - (intOf i).toNat)
      case atStart => exact ⟨0, ao, cp2, 0, Nat.zero_le _, rfl, rfl, rfl, hR⟩
      case round =>
        obtain ⟨n, ao3, cp3, k, hn, rfl, rfl, hk, hR3⟩ := hrel
        have hkl : k ≤ 100000 := by rw [hk, catN_len]; have := sumN_le rs n; omega
        by_cases hlt : n < rs.length
        · obtain ⟨r, hq⟩ : ∃ r, rs[n]? = some r := ⟨_, List.getElem?_eq_getElem hlt⟩
          obtain ⟨c0, c1⟩ := (HH.out.below hR3.b) n r hq
          have HC := Lib.hid (catN_take hq)
          have hlr : (catN (rs.take n)).length + r.ms.length ≤ 100000 := by
            have h1 := catN_len (rs.take (n + 1))
            rw [HC.out, List.length_append] at h1
            have := sumN_le rs (n + 1)
            omega
          have HL := Lib.hid hlr
          have HS := Lib.hid c1
          have HP := Lib.hid (HH.out n r hq).2.p
          have HR := Lib.hid hR3
          have HK := Lib.hid hk
          clear hq c1 hlr hR3 hk hR
          go_wp2_with (at_builtin; refine wpList_appnd rfl (.tmp 31) (.tmp 32) rfl _ (catN (rs.take n)) rfl HR.out r.a r.cap r.ms _ rfl rfl HS.out HP.out HL.out _ rfl ?_; intro ao4 cp4 w4 hm4 hc4 hR4 hO4 hk4; have HF := Lib.hid hR4; clear hR4 hO4 hk4; unfold maxLen at hm4)
          go_roundw
          case rel => exact ⟨n + 1, ao4, cp4, _, by omega, by go_num, rfl, by rw [HC.out, List.length_append], by rw [HC.out]; exact HF.out⟩
          case measure => simp [intOf]; omega
        · obtain rfl : n = rs.length := by omega
          rw [List.take_of_length_le (Nat.le_refl _)] at hk hR3
          rw [catN_len] at hk
          subst hk
          have HX := Lib.hid hR3
          clear hR3 hR
          go_wp2_with (fail)
          go_ret
          exact ⟨_, _, rfl, HX.out⟩

/-- A tree in a box of its own. -/
def Tq (W : World) (q : Nat) (x : Int) (a : Option Addr) (n c : Nat) : Prop := W.heap[q]? = some (.cells #[.int .i64 x, .slice a n c] 24)
section
variable {W W' : World} {q o j : Nat} {x : Int} {a : Option Addr} {n c : Nat}
theorem Tq.new (w : World) (x : Int) (a : Option Addr) (n c : Nat) : Tq (w.alloc (.cells #[.int .i64 x, .slice a n c] 24)) w.heap.size x a n c := heap_alloc_new w _
theorem Tq.lt (h : Tq W q x a n c) : q < W.heap.size := by
  unfold Tq at h
  exact (Array.getElem?_eq_some_iff.1 h).1
theorem Tq.keep (h : Tq W q x a n c) (hb : Below W.heap.size W W') : Tq W' q x a n c := (hb.block q h.lt).trans h
theorem Tq.only {S : Nat → Prop} (h : Tq W q x a n c) (ho : Only S W W') (hq : ¬ S q) : Tq W' q x a n c := (ho.block q h.lt hq).trans h
theorem Tq.cell (h : Tq W q x a n c) : W.cell? ⟨q, j, none⟩ = (#[.int .i64 x, .slice a n c] : Array Value)[j]? := by
  unfold World.cell?
  rw [show W.heap[q]? = _ from h]; rfl
theorem Tq.c0 (h : Tq W q x a n c) : W.cell? ⟨q, 0, none⟩ = some (.int .i64 x) := h.cell
theorem Tq.c1 (h : Tq W q x a n c) : W.cell? ⟨q, 1, none⟩ = some (.slice a n c) := h.cell
theorem Tq.fr (h : Tq W q x a n c) (j : Nat) : W.frozen? ⟨q, j, none⟩ = false := by
  unfold World.frozen?
  rw [show W.heap[q]? = _ from h]
  show (decide (0 ≤ j) && decide (j < 0)) = false
  simp
theorem Tq.set1 (h : Tq W q x a n c) (a' : Option Addr) (n' c' : Nat) : Tq (W.setCell ⟨q, 1, none⟩ (.slice a' n' c')) q x a' n' c' := by
  unfold Tq World.setCell
  simp only [Array.getElem?_modify]
  rw [if_pos trivial, show W.heap[q]? = _ from h]; rfl
theorem Tq.nodes {b : Bool} (h : Tq W q x a n c) (hc : W.cell? ⟨q, o, none⟩ = some (.bool b)) : False := by
  rw [h.cell] at hc
  match o, hc with
  | 0, hc => simp at hc
  | 1, hc => simp at hc
  | o + 2, hc => simp at hc
theorem Tq.pairs {y z : Int} (h : Tq W q x a n c) (hc : W.cell? ⟨q, o, none⟩ = some (.int .i64 y)) (hd : W.cell? ⟨q, o + 1, none⟩ = some (.int .i64 z)) : False := by
  rw [h.cell] at hc hd
  match o, hc, hd with
  | 0, hc, hd => simp at hd
  | 1, hc, hd => simp at hc
  | o + 2, hc, hd => simp at hc
theorem Tq.prs (h : Tq W q x a n c) {pa : Option Addr} {pc : Nat} {p : List Pr} (hp : Prs W pa pc p) (i : Nat) (u : Value) : Prs (W.setCell ⟨q, i, none⟩ u) pa pc p := by
  refine ⟨hp.1, hp.2.1, fun k y hy => ?_, hp.2.2.2⟩
  obtain ⟨b', o', e', p0, p1⟩ := hp.2.2.1 k y hy
  have hb' : b' ≠ q := fun e => by subst e; exact h.pairs p0 p1
  exact ⟨b', o', e', setO p0 (.inl (fun e => hb' e.symm)), setO p1 (.inl (fun e => hb' e.symm))⟩
end
/-- A result's cells: a tree that is not told yet. -/
abbrev Rq (W : World) (q : Nat) : Prop := Tq W q 0 none 0 0
theorem Rq.new (w : World) : Rq (w.alloc (.cells #[.int .i64 0, .slice none 0 0] 24)) w.heap.size := Tq.new w _ _ _ _
/-- A tree that a call told is still there when it is laid into a result's cells. -/
theorem Rq.lt {W : World} {q : Nat} (h : Rq W q) : q < W.heap.size := World.block_lt_of_cell? W _ h.c0
theorem ns_ret {W : World} {q : Nat} (hq : Rq W q) {a : Option Addr} {cap : Nat} {N : List Nd} (h : Ns W a cap N) (u v : Value) : Ns ((W.setCell ⟨q, 0, none⟩ u).setCell ⟨q, 1, none⟩ v) a cap N := by
  refine ⟨h.1, h.2.1, fun i n hn => ?_⟩
  obtain ⟨b, o, pa, pc, e, hna⟩ := h.2.2 i n hn
  have hb : b ≠ q := fun e => by subst e; exact hq.nodes hna.c0
  have st : ∀ {j : Nat} {x : Value}, W.cell? ⟨b, j, none⟩ = some x → ((W.setCell ⟨q, 0, none⟩ u).setCell ⟨q, 1, none⟩ v).cell? ⟨b, j, none⟩ = some x := fun hc => setO (setO hc (.inl (fun e => hb e.symm))) (.inl (fun e => hb e.symm))
  refine ⟨b, o, pa, pc, e, st hna.c0, st hna.c1, st hna.c2, st hna.c3, st hna.c4, st hna.c5, hna.ps.1, hna.ps.2.1, fun k p hp => ?_, hna.ps.2.2.2⟩
  obtain ⟨b', o', e', p0, p1⟩ := hna.ps.2.2.1 k p hp
  have hb' : b' ≠ q := fun e => by subst e; exact hq.pairs p0 p1
  exact ⟨b', o', e', setO (setO p0 (.inl (fun e => hb' e.symm))) (.inl (fun e => hb' e.symm)), setO (setO p1 (.inl (fun e => hb' e.symm))) (.inl (fun e => hb' e.symm))⟩
theorem ret_below {w W : World} {q : Nat} (hb : Below w.heap.size w W) (hq : w.heap.size ≤ q) (u v : Value) : Below w.heap.size w ((W.setCell ⟨q, 0, none⟩ u).setCell ⟨q, 1, none⟩ v) := (hb.setCell hq _).setCell hq _
theorem eqnil_run (p : Addr) (n cap : Nat) (w : World) : (binOp BinOp.eql 22 (Value.slice (some p) n cap) (Value.slice none 0 0)).run Try.prog w = .ok (.bool false) w := by kernel_rfl
attribute [local go_sem] eqnil_run
set_option maxRecDepth 100000 in
set_option maxHeartbeats 1600000 in
/-- slices.Clone. -/
theorem nclone_any (a : Option Addr) (cap : Nat) (N : List Nd) (w : World) (hN : Ns w a cap N) (hp : 0 < N.length) (hl : N.length ≤ 10000) :
    Calls Try.prog 127 #[.slice a N.length cap] w (NdIs w N) := by
  obtain ⟨ms, hms, hS⟩ := ns_src hN hp
  have hlen : ms.length = N.length := by rw [← hms, List.length_map]
  obtain ⟨b, o, pa, pc, rfl, _⟩ := hN.2.2 0 _ (nd_get hp)
  have hc1 := hN.1
  have hc2 := hN.2.1
  unfold maxLen at hc2
  have HS := Lib.hid (hS.keep (al1 (.cells #[] 49)))
  have HP := Lib.hid hS.p
  have HL := Lib.hid (And.intro hlen hms)
  have H1 := Lib.hid (show ([] : List RN).length + ms.length ≤ 100000 by simp; omega)
  have H2 := Lib.hid (show ([] : List RN).length + ms.length = N.length by simp; omega)
  clear hS hlen hN hms
  go_enter Try.func127, Try.ntmps127
  go_wp2_with (at_builtin; refine wpList_appnd rfl (.tmp 5) (.tmp 6) rfl _ [] rfl (NdR.lit w) _ _ ms _ HL.out.1.symm rfl HS.out HP.out H1.out _ H2.out ?_; intro ao4 cp4 w4 hm4 hc4 hR4 hO4 hk4; have HF := Lib.hid hR4; clear hR4 hO4 hk4; unfold maxLen at hm4)
  go_ret
  exact ⟨_, _, ms, rfl, HL.out.2, HF.out⟩
end Go.Proofs.Ytijepfabkalcoaa

