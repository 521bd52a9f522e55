/- plan.node at a route that may be: both sides, then its own places. No condition: lemmas. -/
import Derived.Test.YtijepfabkalcoaaPnA
import Derived.Test.YtijepfabkalcoaaTrE
namespace Go.Proofs.Ytijepfabkalcoaa
open Go.RowKit
set_option linter.all false

attribute [local go_sem] undef
/-- A node is appended onto a row of one's own, as a step of a region that draws its order. -/
theorem step_push {w : World} {ops : Array Oper} {o : Oper} {a : Act} {K : Act → World → Prop} {Q : Exit → Act → World → Prop} {E : Prop}
    (hg : o.guard = none) (s x : Operand) (hop : o.op = Op.call { callee := Callee.builtin Builtin.append, args := #[s, x], argTypes := #[22, 22] })
    (Qs : Nat → Prop) (v : Value) (M : List RN) (hs : a.eval s = v) (h : NRow w Qs v M) (hQ : ∀ k, Qs k → k < w.heap.size)
    (m : RN) (hp : Prs w m.a m.c m.n.p) (hsep : m.n.p ≠ [] → ∀ b o sp, m.a = some ⟨b, o, sp⟩ → b < w.heap.size ∧ ¬ Qs b ∧ v.ownBlock ≠ some b)
    (g : Nat) (hx : a.eval x = .slice (some ⟨g, 0, none⟩) 1 1) (hB : Bk w g (cellN m)) (hM : M.length ≤ 10000) (n : Nat) (hn : M.length + 1 = n)
    (H : ∀ ao cap w', cap ≤ maxLen → n ≤ cap → NRow w' Qs (.slice ao n cap) (M ++ [m]) → Only (fun k => v.ownBlock = some k) w w' → (∀ k, (Value.slice ao n cap).ownBlock = some k → v.ownBlock = some k ∨ w.heap.size ≤ k) → K (a.put o.dst (.slice ao n cap)) w') :
    if Region.wanted o (yielded ops a.tmps) = true then Oper.wp Try.prog o a w K Q else E := by
  subst hn
  obtain ⟨i, hi, hz, hs1, hs2⟩ := info_parts infoNode
  refine step_own_append hg s x 22 hop 49 i _ 6 64 Try.underlying22 hi hz hs1 hs2 rfl (by decide) v M.length (cellsN M) hs h.row _ 1 (cellN m) hx
    (.inr ⟨_, _, rfl, fun j u hj => by rw [add_lit, Nat.zero_add]; exact hB.at_ j u hj⟩) (by simp [cellN]) (fun u hu => cellsN_one [m] u (by simpa [cellsN] using hu)) (by unfold maxLen; omega) (by omega) ?_
  intro v' w' hown hgr hk
  obtain ⟨ao, cap, rfl, h1, h2⟩ := row_form hown
  have hO : Only (fun k => v.ownBlock = some k) w w' := (Only.refl _ _).grown hgr (fun j hj _ => hj)
  refine H ao cap w' h2 h1 ⟨by simpa [cellsN_app, cellsN] using hown, fun k hk' hq => ?_, fun x hx => ?_⟩ hO hk
  · rcases hk k hk' with e | e
    · exact h.own k e hq
    · have := hQ k hq; omega
  · have lt_of : ∀ (p : List Pr) (pa : Option Addr) (pc : Nat), Prs w pa pc p → p ≠ [] → ∀ b o sp, pa = some ⟨b, o, sp⟩ → b < w.heap.size := fun p pa pc hp hne b o sp e => by
      obtain ⟨q, l, rfl⟩ := List.exists_cons_of_ne_nil hne
      obtain ⟨b', o', e', c0, _⟩ := hp.2.2.1 0 q rfl
      rw [e] at e'; cases e'
      exact World.block_lt_of_cell? w _ c0
    rcases List.mem_append.1 hx with hx | hx
    · obtain ⟨p1, p2⟩ := h.prs x hx
      refine ⟨prs_only p1 hO (fun hp b o sp e hh => (p2 hp b o sp e).2 hh), fun hp b o sp e => ⟨(p2 hp b o sp e).1, fun hh => ?_⟩⟩
      rcases hk b hh with e' | e'
      · exact (p2 hp b o sp e).2 e'
      · have := lt_of _ _ _ p1 hp b o sp e; omega
    · rw [List.mem_singleton.1 hx]
      refine ⟨prs_only hp hO (fun hne b o sp e hh => (hsep hne b o sp e).2.2 hh), fun hne b o sp e => ⟨(hsep hne b o sp e).2.1, fun hh => ?_⟩⟩
      rcases hk b hh with e' | e'
      · exact (hsep hne b o sp e).2.2 e'
      · have := (hsep hne b o sp e).1; omega
theorem BdOk.row {W W' : World} {Q : Nat → Prop} {vo v' : Value} {o : Bd} (h : BdOk W Q vo o) (ho : Only (fun k => vo.ownBlock = some k) W W') (hown : ∀ k, v'.ownBlock = some k → vo.ownBlock = some k ∨ W.heap.size ≤ k) : BdOk W' Q v' o := fun g x e => by
  obtain ⟨h1, h2, h3⟩ := h g x e
  refine ⟨ho.cell h1 h3, h2, fun e' => ?_⟩
  rcases hown g e' with e2 | e2
  · exact h3 e2
  · have := World.block_lt_of_cell? W _ h1
    dsimp only at this
    omega
theorem BdOk.call {W W' : World} {pb gs : Nat} {vo v' : Value} {o : Bd} (h : BdOk W (fun k => k = pb ∨ k = gs) vo o) (ho : Only (fun k => k = pb ∨ k = gs ∨ vo.ownBlock = some k) W W') (hown : ∀ k, v'.ownBlock = some k → vo.ownBlock = some k ∨ W.heap.size ≤ k) : BdOk W' (fun k => k = pb ∨ k = gs) v' o := fun g x e => by
  obtain ⟨h1, h2, h3⟩ := h g x e
  refine ⟨ho.cell h1 (fun hh => ?_), h2, fun e' => ?_⟩
  · rcases hh with hh | hh | hh
    · exact h2 (.inl hh)
    · exact h2 (.inr hh)
    · exact h3 hh
  · rcases hown g e' with e2 | e2
    · exact h3 e2
    · have := World.block_lt_of_cell? W _ h1
      dsimp only at this
      omega
def mR (k : Int) : RN := ⟨⟨true, k, 0, 0, [], 0⟩, none, 0⟩
section
variable {w0 W : World} {pb gs : Nat} {T : Int} {a : Option Addr} {cap : Nat} {N : List Nd} {sc : Nat} {vo : Value} {M : List RN} {sn : List Bool} {lo hi : Bd} {t : Int}
set_option maxRecDepth 100000 in
set_option maxHeartbeats 25600000 in
theorem node_rt_yes (hN : Ns w0 a cap N) (hsm : Small N) {i : Nat} {n : Nd} (hn : N[i]? = some n) (hr : n.r = true) (hs : sn[i]? = some false) (ht : t = (i : Int)) (hP : Pn w0 W pb gs T a cap N sc vo M sn false) (hlo : BdOk W (fun k => k = pb ∨ k = gs) vo lo) (hhi : BdOk W (fun k => k = pb ∨ k = gs) vo hi) (hk : okR n (bdo lo) (bdo hi)) {f : Nat} (hf : cnt sn < f + 1) (hML : M.length + cnt sn ≤ N.length) (IH : PnOk w0 pb gs T a cap N sc f) :
    Calls Try.prog 42 #[.pointer (some ⟨pb, 0, none⟩), .int .i64 t, bdv lo, bdv hi] W (PnIs w0 pb gs T a cap N sc vo M sn false t (bdo lo) (bdo hi) W) := by
  have hn0 := hn
  have hs0 := hs
  have hk0 := hk
  subst ht
  have hil := (List.getElem?_eq_some_iff.1 hn).1
  have hl1 := hsm.1
  have hc1 := hN.1
  have hc2 := hN.2.1
  have hpl := hsm.at hn
  unfold maxLen at hc2
  obtain ⟨ao, co, rfl, hco, hcm⟩ := hP.r.form
  unfold maxLen at hcm
  have P1 := Lib.hid (hP.mark i (by rw [hP.sl]; exact hil))
  have L1 := Lib.hid (hlo.only (only_gs (W := W) (gs := gs) (.bool true) i) (fun k hk => .inr hk))
  have L2 := Lib.hid (hhi.only (only_gs (W := W) (gs := gs) (.bool true) i) (fun k hk => .inr hk))
  obtain ⟨b, o, pa, pc, rfl, hna0⟩ := hN.2.2 i n hn
  have E := Lib.hid (hna0.keep P1.out.z)
  have c0 := hP.s.at_ i _ hs
  have fg := hP.s.fr i
  have p1 := hP.b.at_ 1 _ rfl
  have p3 := hP.b.at_ 3 _ rfl
  have p4 := hP.b.at_ 4 _ rfl
  have h0 : (0 : Int) ≤ (i : Int) := by omega
  have h1 : (i : Int) < (N.length : Int) := by omega
  have HG := Lib.hid (And.intro hP.b.lt (And.intro hP.s.lt (And.intro hP.ne (And.intro hP.hp hP.hs))))
  obtain ⟨r, k, l, b', p, s⟩ := n
  dsimp only at hr hpl E
  subst hr
  have HHN := Lib.hid hN
  have HK := Lib.hid (And.intro hn0 (And.intro hs0 (And.intro hk0 (And.intro hf hML))))
  have OW := Lib.hid ((only_gs (W := W) (gs := gs) (.bool true) i).mono (T := (fun k => k = pb ∨ k = gs ∨ (Value.slice ao M.length co).ownBlock = some k)) (fun i hi _ => .inr (.inl hi)))
  have HOWN := Lib.hid (show ∀ k, (Value.slice ao M.length co).ownBlock = some k → k < W.heap.size from fun k hk => (hP.r.row.lt k hk).2)
  obtain ⟨rfl, rfl, hkin, hkne⟩ := (show p = [] ∧ s = 0 ∧ inS (bdo lo) (bdo hi) k ∧ bdo lo ≠ some k from hk)
  have cL := fun (W' : World) (v' : Value) (m : RN) (hPn : Pn w0 W' pb gs T (some ⟨b, o, none⟩) cap N sc v' (M ++ [m]) (sn.set i true) false) (h1 : BdOk W' (fun k => k = pb ∨ k = gs) v' lo) (gk : Nat) (h2 : BdOk W' (fun k => k = pb ∨ k = gs) v' (some (gk, k))) => (show Calls Try.prog 42 #[.pointer (some ⟨pb, 0, none⟩), .int .i64 l, bdv lo, .slice (some ⟨gk, 0, none⟩) 1 1] W' (PnIs w0 pb gs T (some ⟨b, o, none⟩) cap N sc v' (M ++ [m]) (sn.set i true) false l (bdo lo) (some k) W') from IH W' v' (M ++ [m]) (sn.set i true) false l lo (some (gk, k)) (cntn (l := []) hs0 hf).1 (by have := cnt_set hs0; simp; omega) hPn h1 h2)
  have cR := fun (W' : World) (v' : Value) (M1 : List RN) (sn1 : List Bool) (bad1 : Bool) (hc1 : cnt sn1 < f) (hc2 : M1.length + cnt sn1 ≤ N.length) (hPn : Pn w0 W' pb gs T (some ⟨b, o, none⟩) cap N sc v' M1 sn1 bad1) (gk : Nat) (h1 : BdOk W' (fun k => k = pb ∨ k = gs) v' (some (gk, k))) (h2 : BdOk W' (fun k => k = pb ∨ k = gs) v' hi) => (show Calls Try.prog 42 #[.pointer (some ⟨pb, 0, none⟩), .int .i64 b', .slice (some ⟨gk, 0, none⟩) 1 1, bdv hi] W' (PnIs w0 pb gs T (some ⟨b, o, none⟩) cap N sc v' M1 sn1 bad1 b' (some k) (bdo hi) W') from IH W' v' M1 sn1 bad1 b' (some (gk, k)) hi hc1 hc2 hPn h1 h2)
  try simp only [List.length_nil] at E
  try simp only [List.length_nil] at hpl
  clear hk hn hn0 hs0 hk0 IH
  clear hP hna0 hs hlo hhi hN
  go_enter Try.func42, Try.ntmps42
  go_upto_region 5 with (fail)
  clear c0 fg p1 p3 p4
  generalize (World.setCell W _ _ : World) = W1 at *
  obtain ⟨e0, e1, e2, e3, e4, e5, dp⟩ := E.out
  dsimp only at e0 e1 e2 e3 e4 e5 dp
  have HDP := Lib.hid dp
  clear dp
  have P2 := Lib.hid (P1.out.keep (al1 (.cells #[.bool true, .int .i64 k, .int .i64 l, .int .i64 b', .slice pa 0 pc, .int .i64 0] 49)))
  have p1 := P1.out.b.at_ 1 _ rfl
  have q2 := P2.out.b.at_ 2 _ rfl
  have q4 := P2.out.b.at_ 4 _ rfl
  have f4 := P2.out.b.fr 4

  have LO : lo = none ∨ ∃ gl xl, lo = some (gl, xl) ∧ decide (k ≤ xl) = false := by
    rcases lo with _ | ⟨gl, xl⟩
    · exact .inl rfl
    · refine .inr ⟨gl, xl, rfl, decide_eq_false (fun h => ?_)⟩
      have h1 := hkin.1 xl rfl
      exact hkne (by simp [bdo]; omega)
  have HI : hi = none ∨ ∃ gh xh, hi = some (gh, xh) ∧ decide (xh ≤ k) = false := by
    rcases hi with _ | ⟨gh, xh⟩
    · exact .inl rfl
    · refine .inr ⟨gh, xh, rfl, decide_eq_false (fun h => ?_)⟩
      have h1 := hkin.2 xh rfl
      omega
  have XB := Lib.hid (Bk.new W1 #[.bool true, .int .i64 k, .int .i64 l, .int .i64 b', .slice pa 0 pc, .int .i64 0] 49)
  have HX := Lib.hid (show pb < W1.heap.size ∧ gs < W1.heap.size ∧ (∀ k, (Value.slice ao M.length co).ownBlock = some k → k < W1.heap.size) from ⟨P1.out.b.lt, P1.out.s.lt, fun k hk => (P1.out.r.row.lt k hk).2⟩)
  clear hkin hkne E
  have HM := Lib.hid (show M.length ≤ 10000 by have := HK.out.2.2.2.2; omega)
  have L1x := Lib.hid (L1.out.keep (al1 (.cells #[.bool true, .int .i64 k, .int .i64 l, .int .i64 b', .slice pa 0 pc, .int .i64 0] 49)))
  have L2x := Lib.hid (L2.out.keep (al1 (.cells #[.bool true, .int .i64 k, .int .i64 l, .int .i64 b', .slice pa 0 pc, .int .i64 0] 49)))
  go_upto_region 17 with (fail)
  go_cut [189] from 15 to 189 (fun x wx => x = .bool false ∧ Below (W1.alloc (.cells #[.bool true, .int .i64 k, .int .i64 l, .int .i64 b', .slice pa 0 pc, .int .i64 0] 49)).heap.size (W1.alloc (.cells #[.bool true, .int .i64 k, .int .i64 l, .int .i64 b', .slice pa 0 pc, .int .i64 0] 49)) wx)
  case first =>
    rcases LO with rfl | ⟨gl, xl, rfl, hxl⟩ <;> rcases HI with rfl | ⟨gh, xh, rfl, hxh⟩
    · simp only [bdv]
      go_quiet (fail)
      go_wp2_with (fail)
      go_meet
      case rel => exact ⟨rfl, below_drewN (Below.refl _ _) nq⟩
    · have ch := (L2x.out gh xh rfl).1
      simp only [bdv]
      go_quiet (fail)
      go_wp2_with (fail)
      go_meet
      case rel => exact ⟨rfl, below_drewN (Below.refl _ _) nq⟩
    · have cl := (L1x.out gl xl rfl).1
      simp only [bdv]
      go_quiet (fail)
      go_wp2_with (fail)
      go_meet
      case rel => exact ⟨rfl, below_drewN (Below.refl _ _) nq⟩
    · have cl := (L1x.out gl xl rfl).1
      have ch := (L2x.out gh xh rfl).1
      simp only [bdv]
      go_quiet (fail)
      go_wp2_with (fail)
      go_meet
      case rel => exact ⟨rfl, below_drewN (Below.refl _ _) nq⟩
  case rest =>
    obtain ⟨rfl, hb3⟩ := hcut
    obtain ⟨W3, hW3⟩ : ∃ V, V = wc := ⟨_, rfl⟩
    subst hW3
    go_upto_region 20 with (fail)
    have P3 := Lib.hid (P2.out.keep hb3)
    have XB3 := Lib.hid (XB.out.keep hb3)
    have O3 := Lib.hid (((OW.out.alloc (.cells #[.bool true, .int .i64 k, .int .i64 l, .int .i64 b', .slice pa 0 pc, .int .i64 0] 49)).trans (Only.ofBelow hb3) (fun i hi _ => hi)))
    have L13 := Lib.hid (L1x.out.keep hb3)
    have L23 := Lib.hid (L2x.out.keep hb3)
    have HS3 := Lib.hid (show W1.heap.size < W3.heap.size from Nat.lt_of_lt_of_le (by simp) hb3.size)
    have HSW := Lib.hid (show W.heap.size ≤ W1.heap.size from OW.out.size)
    clear q2 q4 f4 P2 XB OW L1 L2 L1x L2x P1 HDP e0 e1 e2 e3 e4 e5 p1 h0 h1 hb3 LO HI
    obtain ⟨qn, hqn⟩ : ∃ q, W1.heap.size = q := ⟨_, rfl⟩
    rw [hqn] at XB3 HX HS3 HSW ⊢
    clear hqn
    have q2 := P3.out.b.at_ 2 _ rfl
    have q2b := (P3.out.b.past (.cells #[.bool true, .int .i64 k, .int .i64 0, .int .i64 0, .slice none 0 0, .int .i64 0] 49)).at_ 2 _ rfl
    have x1 := XB3.out.at_ 1 _ rfl
    have NQ := Lib.hid (show ∀ k, (Value.slice ao M.length co).ownBlock = some k → ¬ (k < w0.heap.size ∨ k = pb ∨ k = gs) from P3.out.r.own)
    have QL := Lib.hid (show ∀ k, (k < w0.heap.size ∨ k = pb ∨ k = gs) → k < W3.heap.size from fun k hk => by
      rcases hk with h | h | h
      · exact Nat.lt_of_lt_of_le h P3.out.z.size
      · rw [h]; exact P3.out.b.lt
      · rw [h]; exact P3.out.s.lt)
    have PA := Lib.hid ((P3.out.keep (al1 (.cells #[.bool true, .int .i64 k, .int .i64 0, .int .i64 0, .slice none 0 0, .int .i64 0] 49))).drew)
    have PB := Lib.hid ((P3.out.drew).keep (al1 (.cells #[.bool true, .int .i64 k, .int .i64 0, .int .i64 0, .slice none 0 0, .int .i64 0] 49)))
    have BA := Lib.hid ((Bk.new W3 #[.bool true, .int .i64 k, .int .i64 0, .int .i64 0, .slice none 0 0, .int .i64 0] 49).drew)
    have BB := Lib.hid (Bk.new W3.drew #[.bool true, .int .i64 k, .int .i64 0, .int .i64 0, .slice none 0 0, .int .i64 0] 49)
    have XA := Lib.hid ((XB3.out.past (.cells #[.bool true, .int .i64 k, .int .i64 0, .int .i64 0, .slice none 0 0, .int .i64 0] 49)).drew)
    have XC := Lib.hid ((XB3.out.drew).past (.cells #[.bool true, .int .i64 k, .int .i64 0, .int .i64 0, .slice none 0 0, .int .i64 0] 49))
    have OA := Lib.hid ((O3.out.alloc (.cells #[.bool true, .int .i64 k, .int .i64 0, .int .i64 0, .slice none 0 0, .int .i64 0] 49)).drew)
    have OB := Lib.hid ((O3.out.drew).alloc (.cells #[.bool true, .int .i64 k, .int .i64 0, .int .i64 0, .slice none 0 0, .int .i64 0] 49))
    have LA1 := Lib.hid ((L13.out.keep (al1 (.cells #[.bool true, .int .i64 k, .int .i64 0, .int .i64 0, .slice none 0 0, .int .i64 0] 49))).keep ((Below.refl _ _).drew))
    have LB1 := Lib.hid ((L13.out.keep ((Below.refl _ _).drew)).keep (al1 (.cells #[.bool true, .int .i64 k, .int .i64 0, .int .i64 0, .slice none 0 0, .int .i64 0] 49)))
    have LA2 := Lib.hid ((L23.out.keep (al1 (.cells #[.bool true, .int .i64 k, .int .i64 0, .int .i64 0, .slice none 0 0, .int .i64 0] 49))).keep ((Below.refl _ _).drew))
    have LB2 := Lib.hid ((L23.out.keep ((Below.refl _ _).drew)).keep (al1 (.cells #[.bool true, .int .i64 k, .int .i64 0, .int .i64 0, .slice none 0 0, .int .i64 0] 49)))
    have HNX := Lib.hid (show (Value.slice ao M.length co).ownBlock ≠ some qn from fun e => absurd (HX.out.2.2 qn e) (Nat.lt_irrefl _))
    have HNP := Lib.hid (show ¬ ((Value.slice ao M.length co).ownBlock = some pb) from fun e => NQ.out pb e (.inr (.inl rfl)))
    clear P3 L13 L23
    go_cut [204] from 15 to 204 (fun _ wx => ∃ (ao4 : Option Addr) (c4 : Nat), Pn w0 wx pb gs T (some ⟨b, o, none⟩) cap N sc (.slice ao4 (M.length + 1) c4) (M ++ [mR k]) (sn.set i true) false ∧ Bk wx qn [.bool true, .int .i64 k, .int .i64 l, .int .i64 b', .slice pa 0 pc, .int .i64 0] ∧ Only (fun k => k = pb ∨ k = gs ∨ (Value.slice ao M.length co).ownBlock = some k) W wx ∧
      BdOk wx (fun k => k = pb ∨ k = gs) (.slice ao4 (M.length + 1) c4) lo ∧ BdOk wx (fun k => k = pb ∨ k = gs) (.slice ao4 (M.length + 1) c4) hi ∧ (∀ k, (Value.slice ao4 (M.length + 1) c4).ownBlock = some k → (Value.slice ao M.length co).ownBlock = some k ∨ W3.heap.size ≤ k) ∧ W3.heap.size ≤ wx.heap.size)
    case first =>
      go_region_law (refine step_push rfl (.tmp 197) (.tmp 201) rfl (fun k => k < w0.heap.size ∨ k = pb ∨ k = gs) _ M rfl (by first | exact PA.out.r | exact PB.out.r) (fun k hk => Nat.lt_of_lt_of_le (QL.out k hk) (by first | (show W3.heap.size ≤ (W3.alloc (.cells #[.bool true, .int .i64 k, .int .i64 0, .int .i64 0, .slice none 0 0, .int .i64 0] 49)).heap.size; simp) | simp)) (mR k) (Prs.nil _) (fun h => absurd rfl h) W3.heap.size rfl (by first | exact BA.out | exact BB.out) HM.out (M.length + 1) rfl ?_; intro ao4 c4 w4 hm4 hc4 hR4 hO4 hk4; have HC4 := Lib.hid (And.intro hm4 hc4); (first | have P4 := Lib.hid (PA.out.row hR4 hO4) | have P4 := Lib.hid (PB.out.row hR4 hO4)); (first | have z := PA.out.b.only hO4 HNP.out | have z := PB.out.b.only hO4 HNP.out); have z2 := z.at_ 2 _ rfl; have zf := z.fr 2; (first | have X4 := Lib.hid (XA.out.only hO4 HNX.out) | have X4 := Lib.hid (XC.out.only hO4 HNX.out)); (first | have O4 := Lib.hid (OA.out.trans hO4 (fun i hi _ => .inr (.inr hi))) | have O4 := Lib.hid (OB.out.trans hO4 (fun i hi _ => .inr (.inr hi)))); (first | have L41 := Lib.hid (LA1.out.row hO4 hk4) | have L41 := Lib.hid (LB1.out.row hO4 hk4)); (first | have L42 := Lib.hid (LA2.out.row hO4 hk4) | have L42 := Lib.hid (LB2.out.row hO4 hk4)); have K4 := Lib.hid (show ∀ k, (Value.slice ao4 (M.length + 1) c4).ownBlock = some k → (Value.slice ao M.length co).ownBlock = some k ∨ W3.heap.size ≤ k from fun k hk => (hk4 k hk).imp id (fun h => Nat.le_trans (by first | (show W3.heap.size ≤ (W3.alloc (.cells #[.bool true, .int .i64 k, .int .i64 0, .int .i64 0, .slice none 0 0, .int .i64 0] 49)).heap.size; simp) | simp) h)); have HSZ := Lib.hid (show W3.heap.size ≤ w4.heap.size from Nat.le_trans (by first | (show W3.heap.size ≤ (W3.alloc (.cells #[.bool true, .int .i64 k, .int .i64 0, .int .i64 0, .slice none 0 0, .int .i64 0] 49)).heap.size; simp) | simp) hO4.size); clear hR4 hO4 hk4 z; unfold maxLen at hm4)
      all_goals
        go_wp2_with (fail)
        go_meet
      all_goals exact ⟨ao4, c4, P4.out, X4.out.other (b' := pb) (k := 2) (.slice ao4 (M.length + 1) c4) (by have := HX.out.1; have := HS3.out; omega), O4.out.setCell (S := (fun k => k = pb ∨ k = gs ∨ (Value.slice ao M.length co).ownBlock = some k)) (p := ⟨pb, 2, none⟩) (.inl (.inl rfl)) _, L41.out.only (only_pb _ _) (fun k hk => .inl hk), L42.out.only (only_pb _ _) (fun k hk => .inl hk), K4.out, by have := HSZ.out; simpa [World.setCell] using this⟩
    case rest =>
      obtain ⟨ao4, c4, hP5, hX5, hO5, hL1, hL2, hK, hSz⟩ := hcut
      clear PA PB BA BB XA XC OA OB LA1 LB1 LA2 LB2 q2 q2b x1 XB3 O3
      have P5 := Lib.hid hP5
      have HS5 := Lib.hid hSz
      have X5 := Lib.hid hX5
      have O5 := Lib.hid hO5
      have L51 := Lib.hid hL1
      have L52 := Lib.hid hL2
      have K5 := Lib.hid hK
      clear hP5 hX5 hO5 hL1 hL2 hK hSz
      obtain ⟨n1, hn1⟩ : ∃ n1, M.length + 1 = n1 := ⟨_, rfl⟩
      rw [hn1] at P5 L51 L52 K5
      have x1 := X5.out.at_ 1 _ rfl
      have x2 := X5.out.at_ 2 _ rfl
      have P6 := Lib.hid (P5.out.keep (al1 (.cells #[.int .i64 k] 3)))
      have B6 := Lib.hid (show BdOk (wc.alloc (.cells #[.int .i64 k] 3)) (fun k => k = pb ∨ k = gs) (.slice ao4 n1 c4) (some (wc.heap.size, k)) from fun g x e => by
        cases e
        refine ⟨by simp, fun hh => ?_, fun hh => ?_⟩
        · rcases hh with hh | hh
          · have := P5.out.b.lt; omega
          · have := P5.out.s.lt; omega
        · exact absurd (P5.out.r.row.lt _ hh).2 (Nat.lt_irrefl _))
      have L61 := Lib.hid (L51.out.keep (al1 (.cells #[.int .i64 k] 3)))
      have L62 := Lib.hid (L52.out.keep (al1 (.cells #[.int .i64 k] 3)))
      have X6 := Lib.hid (X5.out.past (.cells #[.int .i64 k] 3))
      have O6 := Lib.hid (O5.out.alloc (.cells #[.int .i64 k] 3))
      have NX := Lib.hid (show (Value.slice ao4 n1 c4).ownBlock ≠ some qn from fun e => (K5.out _ e).elim HNX.out (fun h => absurd h (by have := HS3.out; omega)))
      go_upto_region 22 with (go_at_call 42; ((with_reducible refine (cL _ _ _ P6.out L61.out _ B6.out).mono ?_); clear cL; rintro e w7 ⟨r1, v1, M1, sn1, bad1, rfl, hP7, hO7, hK7, hPo7⟩; have P7 := Lib.hid hP7; have X7 := Lib.hid (X6.out.only hO7 (by intro hh; rcases hh with hh | hh | hh; (have := HX.out.1; omega); (have := HX.out.2.1; omega); exact NX.out hh)); have L72 := Lib.hid (L62.out.call hO7 hK7); have Po7 := Lib.hid hPo7; have O7 := Lib.hid (O6.out.trans hO7 (fun i hi hl => by
        rcases hi with hi | hi | hi
        · exact .inl hi
        · exact .inr (.inl hi)
        · exact (K5.out i hi).elim (fun h => .inr (.inr h)) (fun h => absurd h (by have := HS3.out; have := HSW.out; omega)))); have K7 := Lib.hid (show ∀ k, v1.ownBlock = some k → (Value.slice ao M.length co).ownBlock = some k ∨ W3.heap.size ≤ k from fun k hk => (hK7 k hk).elim (fun h => K5.out k h) (fun h => .inr (Nat.le_trans (Nat.le_trans HS5.out (by simp)) h))); clear hP7 hO7 hK7 hPo7))
      have HC := Lib.hid (show cnt sn1 < f ∧ M1.length + cnt sn1 ≤ N.length from by
        obtain ⟨-, hs0, -, hf, hML⟩ := HK.out
        have h1 := cnt_set hs0
        have h2 := Po7.out.2.1.1
        have h3 := Po7.out.2.1.2
        simp at h3
        omega)
      have x3 := X7.out.at_ 3 _ rfl
      have x1' := X7.out.at_ 1 _ rfl
      have P8 := Lib.hid (P7.out.keep (al1 (.cells #[.int .i64 k] 3)))
      have B8 := Lib.hid (show BdOk (w7.alloc (.cells #[.int .i64 k] 3)) (fun k => k = pb ∨ k = gs) v1 (some (w7.heap.size, k)) from fun g x e => by
        cases e
        refine ⟨by simp, fun hh => ?_, fun hh => ?_⟩
        · rcases hh with hh | hh
          · have := P7.out.b.lt; omega
          · have := P7.out.s.lt; omega
        · exact absurd (P7.out.r.row.lt _ hh).2 (Nat.lt_irrefl _))
      have L82 := Lib.hid (L72.out.keep (al1 (.cells #[.int .i64 k] 3)))
      have O8 := Lib.hid (O7.out.alloc (.cells #[.int .i64 k] 3))
      clear x1 x2 X5 X6 P5 P6 L51 L52 L61 L62 O5 O6 B6
      go_upto_region 23 with (go_at_call 42; ((with_reducible refine (cR _ _ _ _ _ HC.out.1 HC.out.2 P8.out _ B8.out L82.out).mono ?_); clear cR; rintro e w9 ⟨r2, v2, M2, sn2, bad2, rfl, hP9, hO9, hK9, hPo9⟩; have P9 := Lib.hid hP9; have Po9 := Lib.hid hPo9; have O9 := Lib.hid (O8.out.trans hO9 (fun i hi hl => by
        rcases hi with hi | hi | hi
        · exact .inl hi
        · exact .inr (.inl hi)
        · exact (K7.out i hi).elim (fun h => .inr (.inr h)) (fun h => absurd h (by have := HS3.out; have := HSW.out; omega)))); have K9 := Lib.hid (show ∀ k, v2.ownBlock = some k → (Value.slice ao M.length co).ownBlock = some k ∨ W.heap.size ≤ k from fun k hk => (hK9 k hk).elim (fun h => (K7.out k h).imp id (fun h => by have := HS3.out; have := HSW.out; omega)) (fun h => .inr (Nat.le_trans O8.out.size h))); clear hP9 hO9 hK9 hPo9))
      obtain ⟨a2, c2, rfl, hc2a, hc2b⟩ := P9.out.r.form
      have hlt : M.length < M2.length := by
        have h1 := Po7.out.1
        have h2 := Po9.out.1
        simp at h1
        omega
      obtain ⟨m2, hm2⟩ : ∃ m, M2[M.length]? = some m := ⟨_, List.getElem?_eq_getElem hlt⟩
      obtain ⟨g2, rfl, -, hna2, hfz2⟩ := P9.out.r.at hm2
      have q2 := P9.out.b.at_ 2 _ rfl
      have y2 := hna2.c2
      have y3 := hna2.c3
      have hi1 : (M.length : Int) < (M2.length : Int) := by omega
      have hM2 : M2.length ≤ 10000 := by
        have := Po9.out.2.1.2
        have := HC.out.2
        omega
      unfold maxLen at hc2b
      have HM2 := Lib.hid hm2
      have FIN := Lib.hid (P9.out.cells hm2 r1 r2)
      have HG2 := Lib.hid (show Only (fun k => k = pb ∨ k = gs ∨ (Value.slice ao M.length co).ownBlock = some k) W ((w9.setCell ⟨g2, M.length * 6 + 2, none⟩ (.int .i64 r1)).setCell ⟨g2, M.length * 6 + 3, none⟩ (.int .i64 r2)) from by
        have hg : (fun k => k = pb ∨ k = gs ∨ (Value.slice ao M.length co).ownBlock = some k) g2 ∨ W.heap.size ≤ g2 := (K9.out g2 rfl).imp (fun h => .inr (.inr h)) id
        exact (O9.out.setCell (S := (fun k => k = pb ∨ k = gs ∨ (Value.slice ao M.length co).ownBlock = some k)) (p := ⟨g2, M.length * 6 + 2, none⟩) hg _).setCell (S := (fun k => k = pb ∨ k = gs ∨ (Value.slice ao M.length co).ownBlock = some k)) (p := ⟨g2, M.length * 6 + 3, none⟩) hg _)
      clear hna2 hm2 x3 x1' hlt
      go_region
      all_goals
        go_wp2_with (fail)
        go_ret
      all_goals
        obtain ⟨hn0, hs0, hk0, -, -⟩ := HK.out
        exact ⟨(M.length : Int), _, _, sn2, bad2, rfl, FIN.out.drew, HG2.out.drew, K9.out, po_rt (m0 := mR k) rfl hn0 rfl hs0 hk0 Po7.out Po9.out rfl HM2.out⟩
end
end Go.Proofs.Ytijepfabkalcoaa

