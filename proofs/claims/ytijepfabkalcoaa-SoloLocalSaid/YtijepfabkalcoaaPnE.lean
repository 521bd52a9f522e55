/- plan.node at a leaf. No condition: lemmas. plan.node exactly; osierref1.Plain. No condition: lemmas. -/
import Derived.Test.YtijepfabkalcoaaPnD
import Derived.Deep.LoopGhost
import Derived.Test.YtijepfabkalcoaaTrR
namespace Go.Proofs.Ytijepfabkalcoaa
open Go.RowKit
open List renaming getElem_toArray → lAq, getElem_cons_succ → lBq, getElem_cons_zero → lCq, setIfInBounds_toArray → lDq, set_cons_zero → lEq, set_cons_succ → lFq
set_option linter.all false
theorem Pn.node {w0 W W1 : World} {pb gs : Nat} {T : Int} {a : Option Addr} {cap : Nat} {N : List Nd} {sc : Nat} {vo : Value} {M : List RN} {sn : List Bool} {bad : Bool} {qn : Nat} {v : Value} (h : Pn w0 W pb gs T a cap N sc vo M sn bad) (R : NRow W1 (fun k => k < w0.heap.size ∨ k = pb ∨ k = gs) vo M) (hq : W1.heap.size = qn) (O : Only (fun k => k = pb ∨ qn ≤ k) W1 (W.setCell ⟨qn, 4, none⟩ v)) (hp : pb < qn) (hs : gs < qn) (hz : w0.heap.size ≤ qn) :
    Pn w0 (W.setCell ⟨qn, 4, none⟩ v) pb gs T a cap N sc vo M sn bad := by
  refine ⟨h.b.other (b' := qn) (k := 4) v (by omega), ⟨by have := h.s.lt; simpa [World.setCell] using this, fun j x hj => setO (h.s.at_ j x hj) (.inl (by omega)), fun j => by rw [World.frozen?_setCell]; exact h.s.fr j⟩, h.sl, ?_, h.z.setCell hz _, h.hp, h.hs, h.ne⟩
  have r1 := R.sub (Q' := fun k => (k < w0.heap.size ∨ k = pb ∨ k = gs) ∨ qn ≤ k) (fun k hk hh => hh.elim id (fun h => by omega))
  have r2 := r1.only O (fun k hk => hk.elim (fun h => .inl (.inr (.inl h))) .inr)
  exact r2.sub (fun k _ hk => .inl hk)
attribute [local go_sem] undef
section
variable {w0 W : World} {pb gs : Nat} {T : Int} {a : Option Addr} {cap : Nat} {N : List Nd} {sc : Nat} {vo : Value} {M : List RN} {sn : List Bool} {lo hi : Bd} {t : Int}
set_option maxRecDepth 100000 in
set_option maxHeartbeats 25600000 in
theorem node_lf (hN : Ns w0 a cap N) (hsm : Small N) {i : Nat} {n : Nd} (hn : N[i]? = some n) (hr : n.r = false) (hs : sn[i]? = some false) (ht : t = (i : Int)) (hP : Pn w0 W pb gs T a cap N sc vo M sn false) (hlo : BdOk W (fun k => k = pb ∨ k = gs) vo lo) (hhi : BdOk W (fun k => k = pb ∨ k = gs) vo hi) (hML : M.length + cnt sn ≤ N.length) :
    Calls Try.prog 42 #[.pointer (some ⟨pb, 0, none⟩), .int .i64 t, bdv lo, bdv hi] W (PnIs w0 pb gs T a cap N sc vo M sn false t (bdo lo) (bdo hi) W) := by
  have hn0 := hn
  have hs0 := hs
  subst ht
  have hil := (List.getElem?_eq_some_iff.1 hn).1
  have hl1 := hsm.1
  have hc1 := hN.1
  have hc2 := hN.2.1
  have hpl := hsm.at hn
  unfold maxLen at hc2
  obtain ⟨ao, co, rfl, hco, hcm⟩ := hP.r.form
  unfold maxLen at hcm
  have P1 := Lib.hid (hP.mark i (by rw [hP.sl]; exact hil))
  have L1 := Lib.hid (hlo.only (only_gs (W := W) (gs := gs) (.bool true) i) (fun k hk => .inr hk))
  have L2 := Lib.hid (hhi.only (only_gs (W := W) (gs := gs) (.bool true) i) (fun k hk => .inr hk))
  obtain ⟨b, o, pa, pc, rfl, hna0⟩ := hN.2.2 i n hn
  have E := Lib.hid (hna0.keep P1.out.z)
  have c0 := hP.s.at_ i _ hs
  have fg := hP.s.fr i
  have p1 := hP.b.at_ 1 _ rfl
  have p3 := hP.b.at_ 3 _ rfl
  have p4 := hP.b.at_ 4 _ rfl
  have h0 : (0 : Int) ≤ (i : Int) := by omega
  have h1 : (i : Int) < (N.length : Int) := by omega
  have HG := Lib.hid (And.intro hP.b.lt (And.intro hP.s.lt (And.intro hP.ne (And.intro hP.hp hP.hs))))
  obtain ⟨r, k, l, b', p, s⟩ := n
  dsimp only at hr hpl E
  subst hr
  have HHN := Lib.hid hN
  have DP0 := Lib.hid (show Prs w0 pa pc p from hna0.ps)
  have HK := Lib.hid (And.intro hn0 (And.intro hs0 hML))
  have OW := Lib.hid ((only_gs (W := W) (gs := gs) (.bool true) i).mono (T := (fun k => k = pb ∨ k = gs ∨ (Value.slice ao M.length co).ownBlock = some k)) (fun i hi _ => .inr (.inl hi)))
  have HSZ1 := Lib.hid (show (W.setCell ⟨gs, i, none⟩ (.bool true)).heap.size ≤ W.heap.size from by simp [World.setCell])
  clear hn hn0 hs0
  clear hP hna0 hs hlo hhi hN
  go_enter Try.func42, Try.ntmps42
  go_upto_region 5 with (fail)
  clear c0 fg p1 p3 p4
  generalize (World.setCell W _ _ : World) = W1 at *
  obtain ⟨e0, e1, e2, e3, e4, e5, dp⟩ := E.out
  dsimp only at e0 e1 e2 e3 e4 e5 dp
  have HDP := Lib.hid dp
  clear dp
  have P2 := Lib.hid (P1.out.keep (al1 (.cells #[.bool false, .int .i64 k, .int .i64 l, .int .i64 b', .slice pa p.length pc, .int .i64 s] 49)))
  have p1 := P1.out.b.at_ 1 _ rfl
  have q2 := P2.out.b.at_ 2 _ rfl
  have q4 := P2.out.b.at_ 4 _ rfl
  have f4 := P2.out.b.fr 4
  have XB := Lib.hid (Bk.new W1 #[.bool false, .int .i64 k, .int .i64 l, .int .i64 b', .slice pa p.length pc, .int .i64 s] 49)
  have HX := Lib.hid (show pb < W1.heap.size ∧ gs < W1.heap.size ∧ (∀ k, (Value.slice ao M.length co).ownBlock = some k → k < W1.heap.size) from ⟨P1.out.b.lt, P1.out.s.lt, fun k hk => (P1.out.r.row.lt k hk).2⟩)
  have HM := Lib.hid (show M.length ≤ 9000 by have := HK.out.2.2; have := hsm.1; have := cnt_set HK.out.2.1; omega)
  have L1x := Lib.hid (L1.out.keep (al1 (.cells #[.bool false, .int .i64 k, .int .i64 l, .int .i64 b', .slice pa p.length pc, .int .i64 s] 49)))
  have L2x := Lib.hid (L2.out.keep (al1 (.cells #[.bool false, .int .i64 k, .int .i64 l, .int .i64 b', .slice pa p.length pc, .int .i64 s] 49)))
  go_upto_region 8 with (fail)
  have R1 := Lib.hid P1.out.r
  have HWW := Lib.hid (show W.heap.size = W1.heap.size from Nat.le_antisymm OW.out.size HSZ1.out)
  clear e0 e1 e2 e3 e4 e5 p1 h0 h1 L1 L2 P1 HDP E
  obtain ⟨qn, hqn⟩ : ∃ q, W1.heap.size = q := ⟨_, rfl⟩
  have O2 := Lib.hid (show Only (fun k => k = pb ∨ qn ≤ k) W1 (W1.alloc (.cells #[.bool false, .int .i64 k, .int .i64 l, .int .i64 b', .slice pa p.length pc, .int .i64 s] 49)) from (Only.refl _ _).alloc _)
  have HQ1 := Lib.hid hqn
  rw [hqn] at XB HX ⊢
  clear hqn
  generalize (World.alloc W1 _ : World) = W2 at *
  go_cut [9] from 15 to 98 (fun x wx => x = .pointer (some ⟨qn, 0, none⟩) ∧ ∃ B8, (B8 = false ↔ k = 0 ∧ l = 0 ∧ b' = 0 ∧ -1000000 ≤ s ∧ s ≤ 1000000 ∧ Srt p) ∧ Pn w0 wx pb gs T (some ⟨b, o, none⟩) cap N sc (.slice ao M.length co) M (sn.set i true) B8 ∧ Bk wx qn [.bool false, .int .i64 k, .int .i64 l, .int .i64 b', .slice pa p.length pc, .int .i64 s] ∧ BdOk wx (fun k => k = pb ∨ k = gs) (.slice ao M.length co) lo ∧ BdOk wx (fun k => k = pb ∨ k = gs) (.slice ao M.length co) hi ∧ Only (fun k => k = pb ∨ qn ≤ k) W1 wx)
  case first =>
    have x1 := XB.out.at_ 1 _ rfl
    have x2 := XB.out.at_ 2 _ rfl
    have x3 := XB.out.at_ 3 _ rfl
    have x4 := XB.out.at_ 4 _ rfl
    have x5 := XB.out.at_ 5 _ rfl
    have fin : ∀ (V : World) (B8 : Bool), Below W2.heap.size W2 V →
        Pn w0 (V.setCell ⟨pb, 4, none⟩ (.bool B8)) pb gs T (some ⟨b, o, none⟩) cap N sc (.slice ao M.length co) M (sn.set i true) B8 ∧ Bk (V.setCell ⟨pb, 4, none⟩ (.bool B8)) qn [.bool false, .int .i64 k, .int .i64 l, .int .i64 b', .slice pa p.length pc, .int .i64 s] ∧ BdOk (V.setCell ⟨pb, 4, none⟩ (.bool B8)) (fun k => k = pb ∨ k = gs) (.slice ao M.length co) lo ∧ BdOk (V.setCell ⟨pb, 4, none⟩ (.bool B8)) (fun k => k = pb ∨ k = gs) (.slice ao M.length co) hi ∧ Only (fun k => k = pb ∨ qn ≤ k) W1 (V.setCell ⟨pb, 4, none⟩ (.bool B8)) := fun V B8 hb =>
      ⟨(P2.out.keep hb).setBad B8, (XB.out.keep hb).other (b' := pb) (k := 4) _ (by have := HX.out.1; omega), (L1x.out.keep hb).only (only_pb _ _) (fun k hk => .inl hk), (L2x.out.keep hb).only (only_pb _ _) (fun k hk => .inl hk), (O2.out.trans (Only.ofBelow hb) (fun i hi _ => hi)).setCell (S := (fun k => k = pb ∨ qn ≤ k)) (p := ⟨pb, 4, none⟩) (.inl (.inl rfl)) _⟩
    have cm := fun B hB => rmay_any pa pc p W2 (DP0.out.below P2.out.z) B hB
    by_cases h0 : k = 0
    case neg =>
      have h1 : (k != 0) = true := by simpa using h0
      go_wp2_with (fail)
      go_meet
      case rel => exact ⟨rfl, true, ⟨fun h => (by cases h), fun h => absurd h.1 h0⟩, fin _ true (Below.refl _ _)⟩
    subst h0
    by_cases h0 : l = 0
    case neg =>
      have h1 : (l != 0) = true := by simpa using h0
      go_wp2_with (fail)
      go_meet
      case rel => exact ⟨rfl, true, ⟨fun h => (by cases h), fun h => absurd h.2.1 h0⟩, fin _ true (Below.refl _ _)⟩
    subst h0
    by_cases h0 : b' = 0
    case neg =>
      have h1 : (b' != 0) = true := by simpa using h0
      go_wp2_with (fail)
      go_meet
      case rel => exact ⟨rfl, true, ⟨fun h => (by cases h), fun h => absurd h.2.2.1 h0⟩, fin _ true (Below.refl _ _)⟩
    subst h0
    by_cases hS : Srt p
    case neg =>
      go_wp2_with (go_at_call 30; ((with_reducible refine (cm false (by simp [hS])).mono ?_); clear cm; rintro e V ⟨rfl, hbV⟩; have x5 := (XB.out.keep hbV).at_ 5 _ rfl; have q4 := (P2.out.keep hbV).b.at_ 4 _ rfl; have f4 := (P2.out.keep hbV).b.fr 4; have HBV := Lib.hid hbV; clear hbV))
      go_meet
      case rel => exact ⟨rfl, true, ⟨fun h => (by cases h), fun h => absurd h.2.2.2.2.2 hS⟩, fin _ true HBV.out⟩
    by_cases h1 : s < -1000000
    · skip
      go_wp2_with (go_at_call 30; ((with_reducible refine (cm true (by simp [hS])).mono ?_); clear cm; rintro e V ⟨rfl, hbV⟩; have x5 := (XB.out.keep hbV).at_ 5 _ rfl; have q4 := (P2.out.keep hbV).b.at_ 4 _ rfl; have f4 := (P2.out.keep hbV).b.fr 4; have HBV := Lib.hid hbV; clear hbV))
      go_meet
      case rel => exact ⟨rfl, true, ⟨fun h => (by cases h), fun h => absurd h1 (by have := h.2.2.2.1; omega)⟩, fin _ true HBV.out⟩
    by_cases h2 : 1000000 < s
    · skip
      go_wp2_with (go_at_call 30; ((with_reducible refine (cm true (by simp [hS])).mono ?_); clear cm; rintro e V ⟨rfl, hbV⟩; have x5 := (XB.out.keep hbV).at_ 5 _ rfl; have q4 := (P2.out.keep hbV).b.at_ 4 _ rfl; have f4 := (P2.out.keep hbV).b.fr 4; have HBV := Lib.hid hbV; clear hbV))
      go_meet
      case rel => exact ⟨rfl, true, ⟨fun h => (by cases h), fun h => absurd h2 (by have := h.2.2.2.2.1; omega)⟩, fin _ true HBV.out⟩
    · skip
      go_wp2_with (go_at_call 30; ((with_reducible refine (cm true (by simp [hS])).mono ?_); clear cm; rintro e V ⟨rfl, hbV⟩; have x5 := (XB.out.keep hbV).at_ 5 _ rfl; have q4 := (P2.out.keep hbV).b.at_ 4 _ rfl; have f4 := (P2.out.keep hbV).b.fr 4; have HBV := Lib.hid hbV; clear hbV))
      go_meet
      case rel => have e1 : (decide (s < -1000000) || decide (1000000 < s)) = false := (by rw [decide_eq_false (show ¬ s < -1000000 by omega), decide_eq_false (show ¬ 1000000 < s by omega)]; rfl); (first | rw [e1] | simp only [e1]); exact ⟨by first | rfl | trivial, false, ⟨fun _ => ⟨by trivial, by trivial, by trivial, by omega, by omega, hS⟩, fun _ => rfl⟩, fin _ false HBV.out⟩
  case rest =>
    obtain ⟨rfl, B8, hB8, hP, hX, hL1, hL2, hO⟩ := hcut
    have ST := Lib.hid (And.intro hP (And.intro hX (And.intro hL1 (And.intro hL2 hO))))
    have HB8 := Lib.hid hB8
    clear hB8 hP hX hL1 hL2 hO P2 XB L1x L2x O2 q2 q4 f4
    have x4 := ST.out.2.1.at_ 4 _ rfl
    go_wp2_with (fail)
    clear x4
    go_loopg [102] p.length (fun g x wr => ∃ (m : Nat) (bad : Bool), g = p.length - m ∧ m ≤ p.length ∧ x = .int .i64 m ∧ (bad = false ↔ B8 = false ∧ ∀ q ∈ p.take m, inS (bdo lo) (bdo hi) q.1) ∧ Pn w0 wr pb gs T (some ⟨b, o, none⟩) cap N sc (.slice ao M.length co) M (sn.set i true) bad ∧ Bk wr qn [.bool false, .int .i64 k, .int .i64 l, .int .i64 b', .slice pa p.length pc, .int .i64 s] ∧ BdOk wr (fun k => k = pb ∨ k = gs) (.slice ao M.length co) lo ∧ BdOk wr (fun k => k = pb ∨ k = gs) (.slice ao M.length co) hi ∧ Only (fun k => k = pb ∨ qn ≤ k) W1 wr)
    case atStart => exact ⟨0, B8, by simp, Nat.zero_le _, rfl, by simp, ST.out⟩
    case round =>
      obtain ⟨m, bad, rfl, hm, rfl, hbad, hP, hX, hL1, hL2, hO⟩ := hrel
      have SR := Lib.hid (And.intro hP (And.intro hX (And.intro hL1 (And.intro hL2 hO))))
      have HBD := Lib.hid hbad
      clear hbad hP hX hL1 hL2 hO ST
      by_cases hlt : m < p.length
      · obtain ⟨q, hq⟩ : ∃ q, p[m]? = some q := ⟨_, List.getElem?_eq_getElem hlt⟩
        obtain ⟨x0, x1⟩ := q
        obtain ⟨bq, oq, rfl, c0, c1⟩ := (DP0.out.below SR.out.1.z).2.2.1 m _ hq
        dsimp only at c0 c1
        have HQ := Lib.hid hq
        have hm1 : (m : Int) < (p.length : Int) := by omega
        clear hq
        go_upto_region 12 with (fail)
        clear c0 c1
        have nxt : ∀ B : Bool, (B = false ↔ bad = false ∧ inS (bdo lo) (bdo hi) x0) → (B = false ↔ B8 = false ∧ ∀ q ∈ p.take (m + 1), inS (bdo lo) (bdo hi) q.1) := fun B hB => by
          rw [hB, HBD.out, List.take_succ, HQ.out]
          constructor
          · rintro ⟨⟨h1, h2⟩, h3⟩
            refine ⟨h1, fun q hq => ?_⟩
            rcases List.mem_append.1 hq with hq | hq
            · exact h2 q hq
            · simp at hq; subst hq; exact h3
          · rintro ⟨h1, h2⟩
            exact ⟨⟨h1, fun q hq => h2 q (List.mem_append_left _ hq)⟩, h2 (x0, x1) (by simp)⟩
        have NXT := Lib.hid nxt
        clear nxt
        have q4 := (SR.out.1.b.past (.cells #[.int .i64 x0, .int .i64 x1] 41)).at_ 4 _ rfl
        have f4 := (SR.out.1.b.past (.cells #[.int .i64 x0, .int .i64 x1] 41)).fr 4
        have HL1 := Lib.hid (SR.out.2.2.1.keep (al1 (.cells #[.int .i64 x0, .int .i64 x1] 41)))
        have HL2 := Lib.hid (SR.out.2.2.2.1.keep (al1 (.cells #[.int .i64 x0, .int .i64 x1] 41)))
        have C12 := Lib.hid ((Bk.new wr #[.int .i64 x0, .int .i64 x1] 41).at_ 0 _ rfl)
        have NE12 := Lib.hid (show pb ≠ wr.heap.size from by have := SR.out.1.b.lt; omega)
        have fa : ∀ B : Bool, Pn w0 (((wr.alloc (.cells #[.int .i64 x0, .int .i64 x1] 41)).setCell ⟨pb, 4, none⟩ (.bool B)).drew) pb gs T (some ⟨b, o, none⟩) cap N sc (.slice ao M.length co) M (sn.set i true) B ∧ Bk (((wr.alloc (.cells #[.int .i64 x0, .int .i64 x1] 41)).setCell ⟨pb, 4, none⟩ (.bool B)).drew) qn [.bool false, .int .i64 k, .int .i64 l, .int .i64 b', .slice (some ⟨bq, oq, none⟩) p.length pc, .int .i64 s] ∧ BdOk (((wr.alloc (.cells #[.int .i64 x0, .int .i64 x1] 41)).setCell ⟨pb, 4, none⟩ (.bool B)).drew) (fun k => k = pb ∨ k = gs) (.slice ao M.length co) lo ∧ BdOk (((wr.alloc (.cells #[.int .i64 x0, .int .i64 x1] 41)).setCell ⟨pb, 4, none⟩ (.bool B)).drew) (fun k => k = pb ∨ k = gs) (.slice ao M.length co) hi ∧ Only (fun k => k = pb ∨ qn ≤ k) W1 (((wr.alloc (.cells #[.int .i64 x0, .int .i64 x1] 41)).setCell ⟨pb, 4, none⟩ (.bool B)).drew) := fun B =>
          ⟨((SR.out.1.keep (al1 (.cells #[.int .i64 x0, .int .i64 x1] 41))).setBad B).drew, ((SR.out.2.1.past (.cells #[.int .i64 x0, .int .i64 x1] 41)).other (b' := pb) (k := 4) _ (by have := HX.out.1; omega)).drew, ((SR.out.2.2.1.keep (al1 (.cells #[.int .i64 x0, .int .i64 x1] 41))).only (only_pb _ _) (fun k hk => .inl hk)).keep ((Below.refl _ _).drew), ((SR.out.2.2.2.1.keep (al1 (.cells #[.int .i64 x0, .int .i64 x1] 41))).only (only_pb _ _) (fun k hk => .inl hk)).keep ((Below.refl _ _).drew), ((SR.out.2.2.2.2.alloc (.cells #[.int .i64 x0, .int .i64 x1] 41)).setCell (S := (fun k => k = pb ∨ qn ≤ k)) (p := ⟨pb, 4, none⟩) (.inl (.inl rfl)) _).drew⟩
        have fb : ∀ B : Bool, Pn w0 (((wr.alloc (.cells #[.int .i64 x0, .int .i64 x1] 41)).drew).setCell ⟨pb, 4, none⟩ (.bool B)) pb gs T (some ⟨b, o, none⟩) cap N sc (.slice ao M.length co) M (sn.set i true) B ∧ Bk (((wr.alloc (.cells #[.int .i64 x0, .int .i64 x1] 41)).drew).setCell ⟨pb, 4, none⟩ (.bool B)) qn [.bool false, .int .i64 k, .int .i64 l, .int .i64 b', .slice (some ⟨bq, oq, none⟩) p.length pc, .int .i64 s] ∧ BdOk (((wr.alloc (.cells #[.int .i64 x0, .int .i64 x1] 41)).drew).setCell ⟨pb, 4, none⟩ (.bool B)) (fun k => k = pb ∨ k = gs) (.slice ao M.length co) lo ∧ BdOk (((wr.alloc (.cells #[.int .i64 x0, .int .i64 x1] 41)).drew).setCell ⟨pb, 4, none⟩ (.bool B)) (fun k => k = pb ∨ k = gs) (.slice ao M.length co) hi ∧ Only (fun k => k = pb ∨ qn ≤ k) W1 (((wr.alloc (.cells #[.int .i64 x0, .int .i64 x1] 41)).drew).setCell ⟨pb, 4, none⟩ (.bool B)) := fun B =>
          ⟨(((SR.out.1.keep (al1 (.cells #[.int .i64 x0, .int .i64 x1] 41))).drew).setBad B), (((SR.out.2.1.past (.cells #[.int .i64 x0, .int .i64 x1] 41)).drew).other (b' := pb) (k := 4) _ (by have := HX.out.1; omega)), (((SR.out.2.2.1.keep (al1 (.cells #[.int .i64 x0, .int .i64 x1] 41))).keep ((Below.refl _ _).drew)).only (only_pb _ _) (fun k hk => .inl hk)), (((SR.out.2.2.2.1.keep (al1 (.cells #[.int .i64 x0, .int .i64 x1] 41))).keep ((Below.refl _ _).drew)).only (only_pb _ _) (fun k hk => .inl hk)), (((SR.out.2.2.2.2.alloc (.cells #[.int .i64 x0, .int .i64 x1] 41)).drew).setCell (S := (fun k => k = pb ∨ qn ≤ k)) (p := ⟨pb, 4, none⟩) (.inl (.inl rfl)) _)⟩
        have FA := Lib.hid fa
        have FB := Lib.hid fb
        clear fa fb
        obtain ⟨q12, hq12⟩ : ∃ q, wr.heap.size = q := ⟨_, rfl⟩
        rw [hq12] at C12 NE12 ⊢
        clear hq12
        cases bad
        · rcases lo with _ | ⟨gl, xl⟩
          · rcases hi with _ | ⟨gh, xh⟩
            · simp only [bdv]
              refine wp_region_held_drew (S := (fun V => V.cell? ⟨q12, 0, none⟩ = some (.int .i64 x0) ∧ True)) (by kernel_rfl) (⟨C12.out, trivial⟩) (fun hHeld => ?_)
              refine tk 0 ?_ rfl (by kernel_rfl) (fun _ _ _ h => h) ⟨by rfl, ?_⟩ hHeld ?_; rotate_left
              · (intro wS hSw; (try dsimp only at hSw); (try go_split_ands); go_simp; try with_reducible rfl)
              try simp only [lAq,lBq,lCq,Act.put,lDq,lEq,lFq]
              refine tk 1 ?_ rfl (by kernel_rfl) (fun _ _ _ h => h) ⟨by rfl, ?_⟩ hHeld ?_; rotate_left
              · (intro wS hSw; (try dsimp only at hSw); (try go_split_ands); go_simp; try with_reducible rfl)
              try simp only [lAq,lBq,lCq,Act.put,lDq,lEq,lFq]
              refine tk 2 ?_ rfl (by kernel_rfl) (fun _ _ _ h => h) ⟨by rfl, ?_⟩ hHeld ?_; rotate_left
              · (intro wS hSw; (try dsimp only at hSw); (try go_split_ands); go_simp; try with_reducible rfl)
              try simp only [lAq,lBq,lCq,Act.put,lDq,lEq,lFq]
              refine tk 3 ?_ rfl (by kernel_rfl) (fun _ _ _ h => h) ⟨by rfl, ?_⟩ hHeld ?_; rotate_left
              · (intro wS hSw; (try dsimp only at hSw); (try go_split_ands); go_simp; try with_reducible rfl)
              try simp only [lAq,lBq,lCq,Act.put,lDq,lEq,lFq]
              refine wpAnyH_ready (rs := [4]) (by kernel_rfl) (by simp) ?_
              refine AllReadyH.cons rfl (fun K hK => ?_) AllReadyH.nil
              go_simp
              refine hK.out _ _ ?_ (fun hNext => ?_)
              · exact ⟨C12.out, trivial⟩
              clear hK K hHeld
              have hHeld := hNext
              clear hNext
              try simp only [lAq,lBq,lCq,Act.put,lDq,lEq,lFq]
              refine tk 5 ?_ rfl (by kernel_rfl) (fun _ _ _ h => h) ⟨by rfl, ?_⟩ hHeld ?_; rotate_left
              · (intro wS hSw; (try dsimp only at hSw); (try go_split_ands); go_simp; try with_reducible rfl)
              try simp only [lAq,lBq,lCq,Act.put,lDq,lEq,lFq]
              refine tk 6 ?_ rfl (by kernel_rfl) (fun _ _ _ h => h) ⟨by rfl, ?_⟩ hHeld ?_; rotate_left
              · (intro wS hSw; (try dsimp only at hSw); (try go_split_ands); go_simp; try with_reducible rfl)
              try simp only [lAq,lBq,lCq,Act.put,lDq,lEq,lFq]
              refine tk 7 ?_ rfl (by kernel_rfl) (fun _ _ _ h => h) ⟨by rfl, ?_⟩ hHeld ?_; rotate_left
              · (intro wS hSw; (try dsimp only at hSw); (try go_split_ands); go_simp; try with_reducible rfl)
              try simp only [lAq,lBq,lCq,Act.put,lDq,lEq,lFq]
              refine tk 8 ?_ rfl (by kernel_rfl) (fun _ _ _ h => h) ⟨by rfl, ?_⟩ hHeld ?_; rotate_left
              · (intro wS hSw; (try dsimp only at hSw); (try go_split_ands); go_simp; try with_reducible rfl)
              try simp only [lAq,lBq,lCq,Act.put,lDq,lEq,lFq]
              refine tk 9 ?_ rfl (by kernel_rfl) (fun _ _ _ h => h) ⟨by rfl, ?_⟩ hHeld ?_; rotate_left
              · (intro wS hSw; (try dsimp only at hSw); (try go_split_ands); go_simp; try with_reducible rfl)
              try simp only [lAq,lBq,lCq,Act.put,lDq,lEq,lFq]
              refine wpAnyH_take (i := 10) (v := undef) rfl (by kernel_rfl) (by kernel_rfl) (by kernel_rfl) (fun _ _ _ h => h) (Or.inr ⟨by rfl, rfl⟩) hHeld ?_
              try simp only [lAq,lBq,lCq,Act.put,lDq,lEq,lFq]
              refine wpAnyH_take (i := 11) (v := undef) rfl (by kernel_rfl) (by kernel_rfl) (by kernel_rfl) (fun _ _ _ h => h) (Or.inr ⟨by rfl, rfl⟩) hHeld ?_
              try simp only [lAq,lBq,lCq,Act.put,lDq,lEq,lFq]
              refine wpAnyH_take (i := 12) (v := undef) rfl (by kernel_rfl) (by kernel_rfl) (by kernel_rfl) (fun _ _ _ h => h) (Or.inr ⟨by rfl, rfl⟩) hHeld ?_
              try simp only [lAq,lBq,lCq,Act.put,lDq,lEq,lFq]
              refine wpAnyH_take (i := 13) (v := undef) rfl (by kernel_rfl) (by kernel_rfl) (by kernel_rfl) (fun _ _ _ h => h) (Or.inr ⟨by rfl, rfl⟩) hHeld ?_
              try simp only [lAq,lBq,lCq,Act.put,lDq,lEq,lFq]
              refine wpAnyH_take (i := 14) (v := undef) rfl (by kernel_rfl) (by kernel_rfl) (by kernel_rfl) (fun _ _ _ h => h) (Or.inr ⟨by rfl, rfl⟩) hHeld ?_
              try simp only [lAq,lBq,lCq,Act.put,lDq,lEq,lFq]
              refine wpAnyH_take (i := 15) (v := undef) rfl (by kernel_rfl) (by kernel_rfl) (by kernel_rfl) (fun _ _ _ h => h) (Or.inr ⟨by rfl, rfl⟩) hHeld ?_
              try simp only [lAq,lBq,lCq,Act.put,lDq,lEq,lFq]
              refine tk 16 ?_ rfl (by kernel_rfl) (fun _ _ _ h => h) ⟨by rfl, ?_⟩ hHeld ?_; rotate_left
              · (intro wS hSw; (try dsimp only at hSw); (try go_split_ands); go_simp; try with_reducible rfl)
              try simp only [lAq,lBq,lCq,Act.put,lDq,lEq,lFq]
              refine tk 17 ?_ rfl (by kernel_rfl) (fun _ _ _ h => h) ⟨by rfl, ?_⟩ hHeld ?_; rotate_left
              · (intro wS hSw; (try dsimp only at hSw); (try go_split_ands); go_simp; try with_reducible rfl)
              try simp only [lAq,lBq,lCq,Act.put,lDq,lEq,lFq]
              refine tk 18 ?_ rfl (by kernel_rfl) (fun _ _ _ h => h) ⟨by rfl, ?_⟩ hHeld ?_; rotate_left
              · (intro wS hSw; (try dsimp only at hSw); (try go_split_ands); go_simp; try with_reducible rfl)
              try simp only [lAq,lBq,lCq,Act.put,lDq,lEq,lFq]
              refine tk 19 ?_ rfl (by kernel_rfl) (fun _ _ _ h => h) ⟨by rfl, ?_⟩ hHeld ?_; rotate_left
              · (intro wS hSw; (try dsimp only at hSw); (try go_split_ands); go_simp; try with_reducible rfl)
              try simp only [lAq,lBq,lCq,Act.put,lDq,lEq,lFq]
              refine tk 20 ?_ rfl (by kernel_rfl) (fun _ _ _ h => h) ⟨by rfl, ?_⟩ hHeld ?_; rotate_left
              · (intro wS hSw; (try dsimp only at hSw); (try go_split_ands); go_simp; try with_reducible rfl)
              try simp only [lAq,lBq,lCq,Act.put,lDq,lEq,lFq]
              refine tk 21 ?_ rfl (by kernel_rfl) (fun _ _ _ h => h) ⟨by rfl, ?_⟩ hHeld ?_; rotate_left
              · (intro wS hSw; (try dsimp only at hSw); (try go_split_ands); go_simp; try with_reducible rfl)
              try simp only [lAq,lBq,lCq,Act.put,lDq,lEq,lFq]
              refine tk 22 ?_ rfl (by kernel_rfl) (fun _ _ _ h => h) ⟨by rfl, ?_⟩ hHeld ?_; rotate_left
              · (intro wS hSw; (try dsimp only at hSw); (try go_split_ands); go_simp; try with_reducible rfl)
              try simp only [lAq,lBq,lCq,Act.put,lDq,lEq,lFq]
              refine wpAnyH_take (i := 23) (v := undef) rfl (by kernel_rfl) (by kernel_rfl) (by kernel_rfl) (fun _ _ _ h => h) (Or.inr ⟨by rfl, rfl⟩) hHeld ?_
              try simp only [lAq,lBq,lCq,Act.put,lDq,lEq,lFq]
              refine wpAnyH_take (i := 24) (v := undef) rfl (by kernel_rfl) (by kernel_rfl) (by kernel_rfl) (fun _ _ _ h => h) (Or.inr ⟨by rfl, rfl⟩) hHeld ?_
              try simp only [lAq,lBq,lCq,Act.put,lDq,lEq,lFq]
              refine wpAnyH_take (i := 25) (v := undef) rfl (by kernel_rfl) (by kernel_rfl) (by kernel_rfl) (fun _ _ _ h => h) (Or.inr ⟨by rfl, rfl⟩) hHeld ?_
              try simp only [lAq,lBq,lCq,Act.put,lDq,lEq,lFq]
              refine wpAnyH_take (i := 26) (v := undef) rfl (by kernel_rfl) (by kernel_rfl) (by kernel_rfl) (fun _ _ _ h => h) (Or.inr ⟨by rfl, rfl⟩) hHeld ?_
              try simp only [lAq,lBq,lCq,Act.put,lDq,lEq,lFq]
              refine wpAnyH_take (i := 27) (v := undef) rfl (by kernel_rfl) (by kernel_rfl) (by kernel_rfl) (fun _ _ _ h => h) (Or.inr ⟨by rfl, rfl⟩) hHeld ?_
              try simp only [lAq,lBq,lCq,Act.put,lDq,lEq,lFq]
              refine wpAnyH_take (i := 28) (v := undef) rfl (by kernel_rfl) (by kernel_rfl) (by kernel_rfl) (fun _ _ _ h => h) (Or.inr ⟨by rfl, rfl⟩) hHeld ?_
              try simp only [lAq,lBq,lCq,Act.put,lDq,lEq,lFq]
              refine tk 29 ?_ rfl (by kernel_rfl) (fun _ _ _ h => h) ⟨by rfl, ?_⟩ hHeld ?_; rotate_left
              · (intro wS hSw; (try dsimp only at hSw); (try go_split_ands); go_simp; try with_reducible rfl)
              try simp only [lAq,lBq,lCq,Act.put,lDq,lEq,lFq]
              refine tk 30 ?_ rfl (by kernel_rfl) (fun _ _ _ h => h) ⟨by rfl, ?_⟩ hHeld ?_; rotate_left
              · (intro wS hSw; (try dsimp only at hSw); (try go_split_ands); go_simp; try with_reducible rfl)
              try simp only [lAq,lBq,lCq,Act.put,lDq,lEq,lFq]
              refine tk 31 ?_ rfl (by kernel_rfl) (fun _ _ _ h => h) ⟨by rfl, ?_⟩ hHeld ?_; rotate_left
              · (intro wS hSw; (try dsimp only at hSw); (try go_split_ands); go_simp; try with_reducible rfl)
              try simp only [lAq,lBq,lCq,Act.put,lDq,lEq,lFq]
              refine tk 32 ?_ rfl (by kernel_rfl) (fun _ _ _ h => h) ⟨by rfl, ?_⟩ hHeld ?_; rotate_left
              · (intro wS hSw; (try dsimp only at hSw); (try go_split_ands); go_simp; try with_reducible rfl)
              try simp only [lAq,lBq,lCq,Act.put,lDq,lEq,lFq]
              refine wpAnyH_ready (rs := [33]) (by kernel_rfl) (by simp) ?_
              refine AllReadyH.cons rfl (fun K hK => ?_) AllReadyH.nil
              go_simp
              refine hK.out _ _ ?_ (fun hNext => ?_)
              · exact ⟨setO C12.out (.inl NE12.out), trivial⟩
              clear hK K hHeld
              have hHeld := hNext
              clear hNext
              try simp only [lAq,lBq,lCq,Act.put,lDq,lEq,lFq]
              refine wpAnyH_done (by kernel_rfl) ?_ _
              go_wp2_with (fail)
              go_roundg (p.length - (m + 1))
              case measure => omega
              case rel => exact ⟨m + 1, false, rfl, by omega, by go_num, NXT.out false ⟨fun _ => ⟨by trivial, inS_any x0⟩, fun _ => rfl⟩, (by first | exact FA.out false | exact FB.out false)⟩
            · simp only [bdv]
              by_cases hx : xh ≤ x0
              · skip
                have CH := Lib.hid (HL2.out gh xh rfl).1
                have NEH := Lib.hid (show pb ≠ gh from fun e => (HL2.out gh xh rfl).2.1 (.inl e.symm))
                have ch := CH.out
                have hxt : decide (xh ≤ x0) = true := decide_eq_true hx
                refine wp_region_held_drew (S := (fun V => V.cell? ⟨q12, 0, none⟩ = some (.int .i64 x0) ∧ V.cell? ⟨gh, 0, none⟩ = some (.int .i64 xh))) (by kernel_rfl) (⟨C12.out, CH.out⟩) (fun hHeld => ?_)
                refine tk 0 ?_ rfl (by kernel_rfl) (fun _ _ _ h => h) ⟨by rfl, ?_⟩ hHeld ?_; rotate_left
                · (intro wS hSw; (try dsimp only at hSw); (try go_split_ands); go_simp; try with_reducible rfl)
                try simp only [lAq,lBq,lCq,Act.put,lDq,lEq,lFq]
                refine tk 1 ?_ rfl (by kernel_rfl) (fun _ _ _ h => h) ⟨by rfl, ?_⟩ hHeld ?_; rotate_left
                · (intro wS hSw; (try dsimp only at hSw); (try go_split_ands); go_simp; try with_reducible rfl)
                try simp only [lAq,lBq,lCq,Act.put,lDq,lEq,lFq]
                refine tk 2 ?_ rfl (by kernel_rfl) (fun _ _ _ h => h) ⟨by rfl, ?_⟩ hHeld ?_; rotate_left
                · (intro wS hSw; (try dsimp only at hSw); (try go_split_ands); go_simp; try with_reducible rfl)
                try simp only [lAq,lBq,lCq,Act.put,lDq,lEq,lFq]
                refine tk 3 ?_ rfl (by kernel_rfl) (fun _ _ _ h => h) ⟨by rfl, ?_⟩ hHeld ?_; rotate_left
                · (intro wS hSw; (try dsimp only at hSw); (try go_split_ands); go_simp; try with_reducible rfl)
                try simp only [lAq,lBq,lCq,Act.put,lDq,lEq,lFq]
                refine wpAnyH_ready (rs := [4]) (by kernel_rfl) (by simp) ?_
                refine AllReadyH.cons rfl (fun K hK => ?_) AllReadyH.nil
                go_simp
                refine hK.out _ _ ?_ (fun hNext => ?_)
                · exact ⟨C12.out, CH.out⟩
                clear hK K hHeld
                have hHeld := hNext
                clear hNext
                try simp only [lAq,lBq,lCq,Act.put,lDq,lEq,lFq]
                refine tk 5 ?_ rfl (by kernel_rfl) (fun _ _ _ h => h) ⟨by rfl, ?_⟩ hHeld ?_; rotate_left
                · (intro wS hSw; (try dsimp only at hSw); (try go_split_ands); go_simp; try with_reducible rfl)
                try simp only [lAq,lBq,lCq,Act.put,lDq,lEq,lFq]
                refine tk 6 ?_ rfl (by kernel_rfl) (fun _ _ _ h => h) ⟨by rfl, ?_⟩ hHeld ?_; rotate_left
                · (intro wS hSw; (try dsimp only at hSw); (try go_split_ands); go_simp; try with_reducible rfl)
                try simp only [lAq,lBq,lCq,Act.put,lDq,lEq,lFq]
                refine tk 7 ?_ rfl (by kernel_rfl) (fun _ _ _ h => h) ⟨by rfl, ?_⟩ hHeld ?_; rotate_left
                · (intro wS hSw; (try dsimp only at hSw); (try go_split_ands); go_simp; try with_reducible rfl)
                try simp only [lAq,lBq,lCq,Act.put,lDq,lEq,lFq]
                refine tk 8 ?_ rfl (by kernel_rfl) (fun _ _ _ h => h) ⟨by rfl, ?_⟩ hHeld ?_; rotate_left
                · (intro wS hSw; (try dsimp only at hSw); (try go_split_ands); go_simp; try with_reducible rfl)
                try simp only [lAq,lBq,lCq,Act.put,lDq,lEq,lFq]
                refine tk 9 ?_ rfl (by kernel_rfl) (fun _ _ _ h => h) ⟨by rfl, ?_⟩ hHeld ?_; rotate_left
                · (intro wS hSw; (try dsimp only at hSw); (try go_split_ands); go_simp; try with_reducible rfl)
                try simp only [lAq,lBq,lCq,Act.put,lDq,lEq,lFq]
                refine wpAnyH_take (i := 10) (v := undef) rfl (by kernel_rfl) (by kernel_rfl) (by kernel_rfl) (fun _ _ _ h => h) (Or.inr ⟨by rfl, rfl⟩) hHeld ?_
                try simp only [lAq,lBq,lCq,Act.put,lDq,lEq,lFq]
                refine wpAnyH_take (i := 11) (v := undef) rfl (by kernel_rfl) (by kernel_rfl) (by kernel_rfl) (fun _ _ _ h => h) (Or.inr ⟨by rfl, rfl⟩) hHeld ?_
                try simp only [lAq,lBq,lCq,Act.put,lDq,lEq,lFq]
                refine wpAnyH_take (i := 12) (v := undef) rfl (by kernel_rfl) (by kernel_rfl) (by kernel_rfl) (fun _ _ _ h => h) (Or.inr ⟨by rfl, rfl⟩) hHeld ?_
                try simp only [lAq,lBq,lCq,Act.put,lDq,lEq,lFq]
                refine wpAnyH_take (i := 13) (v := undef) rfl (by kernel_rfl) (by kernel_rfl) (by kernel_rfl) (fun _ _ _ h => h) (Or.inr ⟨by rfl, rfl⟩) hHeld ?_
                try simp only [lAq,lBq,lCq,Act.put,lDq,lEq,lFq]
                refine wpAnyH_take (i := 14) (v := undef) rfl (by kernel_rfl) (by kernel_rfl) (by kernel_rfl) (fun _ _ _ h => h) (Or.inr ⟨by rfl, rfl⟩) hHeld ?_
                try simp only [lAq,lBq,lCq,Act.put,lDq,lEq,lFq]
                refine wpAnyH_take (i := 15) (v := undef) rfl (by kernel_rfl) (by kernel_rfl) (by kernel_rfl) (fun _ _ _ h => h) (Or.inr ⟨by rfl, rfl⟩) hHeld ?_
                try simp only [lAq,lBq,lCq,Act.put,lDq,lEq,lFq]
                refine tk 16 ?_ rfl (by kernel_rfl) (fun _ _ _ h => h) ⟨by rfl, ?_⟩ hHeld ?_; rotate_left
                · (intro wS hSw; (try dsimp only at hSw); (try go_split_ands); go_simp; try with_reducible rfl)
                try simp only [lAq,lBq,lCq,Act.put,lDq,lEq,lFq]
                refine tk 17 ?_ rfl (by kernel_rfl) (fun _ _ _ h => h) ⟨by rfl, ?_⟩ hHeld ?_; rotate_left
                · (intro wS hSw; (try dsimp only at hSw); (try go_split_ands); go_simp; try with_reducible rfl)
                try simp only [lAq,lBq,lCq,Act.put,lDq,lEq,lFq]
                refine tk 18 ?_ rfl (by kernel_rfl) (fun _ _ _ h => h) ⟨by rfl, ?_⟩ hHeld ?_; rotate_left
                · (intro wS hSw; (try dsimp only at hSw); (try go_split_ands); go_simp; try with_reducible rfl)
                try simp only [lAq,lBq,lCq,Act.put,lDq,lEq,lFq]
                refine tk 19 ?_ rfl (by kernel_rfl) (fun _ _ _ h => h) ⟨by rfl, ?_⟩ hHeld ?_; rotate_left
                · (intro wS hSw; (try dsimp only at hSw); (try go_split_ands); go_simp; try with_reducible rfl)
                try simp only [lAq,lBq,lCq,Act.put,lDq,lEq,lFq]
                refine tk 20 ?_ rfl (by kernel_rfl) (fun _ _ _ h => h) ⟨by rfl, ?_⟩ hHeld ?_; rotate_left
                · (intro wS hSw; (try dsimp only at hSw); (try go_split_ands); go_simp; try with_reducible rfl)
                try simp only [lAq,lBq,lCq,Act.put,lDq,lEq,lFq]
                refine tk 21 ?_ rfl (by kernel_rfl) (fun _ _ _ h => h) ⟨by rfl, ?_⟩ hHeld ?_; rotate_left
                · (intro wS hSw; (try dsimp only at hSw); (try go_split_ands); go_simp; try with_reducible rfl)
                try simp only [lAq,lBq,lCq,Act.put,lDq,lEq,lFq]
                refine tk 22 ?_ rfl (by kernel_rfl) (fun _ _ _ h => h) ⟨by rfl, ?_⟩ hHeld ?_; rotate_left
                · (intro wS hSw; (try dsimp only at hSw); (try go_split_ands); go_simp; try with_reducible rfl)
                try simp only [lAq,lBq,lCq,Act.put,lDq,lEq,lFq]
                refine tk 23 ?_ rfl (by kernel_rfl) (fun _ _ _ h => h) ⟨by rfl, ?_⟩ hHeld ?_; rotate_left
                · (intro wS hSw; (try dsimp only at hSw); (try go_split_ands); go_simp; try with_reducible rfl)
                try simp only [lAq,lBq,lCq,Act.put,lDq,lEq,lFq]
                refine tk 24 ?_ rfl (by kernel_rfl) (fun _ _ _ h => h) ⟨by rfl, ?_⟩ hHeld ?_; rotate_left
                · (intro wS hSw; (try dsimp only at hSw); (try go_split_ands); go_simp; try with_reducible rfl)
                try simp only [lAq,lBq,lCq,Act.put,lDq,lEq,lFq]
                refine tk 25 ?_ rfl (by kernel_rfl) (fun _ _ _ h => h) ⟨by rfl, ?_⟩ hHeld ?_; rotate_left
                · (intro wS hSw; (try dsimp only at hSw); (try go_split_ands); go_simp; try with_reducible rfl)
                try simp only [lAq,lBq,lCq,Act.put,lDq,lEq,lFq]
                refine tk 26 ?_ rfl (by kernel_rfl) (fun _ _ _ h => h) ⟨by rfl, ?_⟩ hHeld ?_; rotate_left
                · (intro wS hSw; (try dsimp only at hSw); (try go_split_ands); go_simp; try with_reducible rfl)
                try simp only [lAq,lBq,lCq,Act.put,lDq,lEq,lFq]
                refine tk 27 ?_ rfl (by kernel_rfl) (fun _ _ _ h => h) ⟨by rfl, ?_⟩ hHeld ?_; rotate_left
                · (intro wS hSw; (try dsimp only at hSw); (try go_split_ands); go_simp; try with_reducible rfl)
                try simp only [lAq,lBq,lCq,Act.put,lDq,lEq,lFq]
                refine tk 28 ?_ rfl (by kernel_rfl) (fun _ _ _ h => h) ⟨by rfl, ?_⟩ hHeld ?_; rotate_left
                · (intro wS hSw; (try dsimp only at hSw); (try go_split_ands); go_simp; try with_reducible rfl)
                try simp only [lAq,lBq,lCq,Act.put,lDq,lEq,lFq]
                refine tk 29 ?_ rfl (by kernel_rfl) (fun _ _ _ h => h) ⟨by rfl, ?_⟩ hHeld ?_; rotate_left
                · (intro wS hSw; (try dsimp only at hSw); (try go_split_ands); go_simp; try with_reducible rfl)
                try simp only [lAq,lBq,lCq,Act.put,lDq,lEq,lFq]
                refine tk 30 ?_ rfl (by kernel_rfl) (fun _ _ _ h => h) ⟨by rfl, ?_⟩ hHeld ?_; rotate_left
                · (intro wS hSw; (try dsimp only at hSw); (try go_split_ands); go_simp; try with_reducible rfl)
                try simp only [lAq,lBq,lCq,Act.put,lDq,lEq,lFq]
                refine tk 31 ?_ rfl (by kernel_rfl) (fun _ _ _ h => h) ⟨by rfl, ?_⟩ hHeld ?_; rotate_left
                · (intro wS hSw; (try dsimp only at hSw); (try go_split_ands); go_simp; try with_reducible rfl)
                try simp only [lAq,lBq,lCq,Act.put,lDq,lEq,lFq]
                refine tk 32 ?_ rfl (by kernel_rfl) (fun _ _ _ h => h) ⟨by rfl, ?_⟩ hHeld ?_; rotate_left
                · (intro wS hSw; (try dsimp only at hSw); (try go_split_ands); go_simp; try with_reducible rfl)
                try simp only [lAq,lBq,lCq,Act.put,lDq,lEq,lFq]
                refine wpAnyH_ready (rs := [33]) (by kernel_rfl) (by simp) ?_
                refine AllReadyH.cons rfl (fun K hK => ?_) AllReadyH.nil
                go_simp
                refine hK.out _ _ ?_ (fun hNext => ?_)
                · exact ⟨setO C12.out (.inl NE12.out), setO CH.out (.inl NEH.out)⟩
                clear hK K hHeld
                have hHeld := hNext
                clear hNext
                try simp only [lAq,lBq,lCq,Act.put,lDq,lEq,lFq]
                refine wpAnyH_done (by kernel_rfl) ?_ _
                go_wp2_with (fail)
                go_roundg (p.length - (m + 1))
                case measure => omega
                case rel => exact ⟨m + 1, true, rfl, by omega, by go_num, NXT.out true ⟨fun h => (by cases h), fun h => absurd (h.2.2 xh rfl) (by omega)⟩, (by first | exact FA.out true | exact FB.out true)⟩
              · skip
                have CH := Lib.hid (HL2.out gh xh rfl).1
                have NEH := Lib.hid (show pb ≠ gh from fun e => (HL2.out gh xh rfl).2.1 (.inl e.symm))
                have ch := CH.out
                have hxt : decide (xh ≤ x0) = false := decide_eq_false hx
                refine wp_region_held_drew (S := (fun V => V.cell? ⟨q12, 0, none⟩ = some (.int .i64 x0) ∧ V.cell? ⟨gh, 0, none⟩ = some (.int .i64 xh))) (by kernel_rfl) (⟨C12.out, CH.out⟩) (fun hHeld => ?_)
                refine tk 0 ?_ rfl (by kernel_rfl) (fun _ _ _ h => h) ⟨by rfl, ?_⟩ hHeld ?_; rotate_left
                · (intro wS hSw; (try dsimp only at hSw); (try go_split_ands); go_simp; try with_reducible rfl)
                try simp only [lAq,lBq,lCq,Act.put,lDq,lEq,lFq]
                refine tk 1 ?_ rfl (by kernel_rfl) (fun _ _ _ h => h) ⟨by rfl, ?_⟩ hHeld ?_; rotate_left
                · (intro wS hSw; (try dsimp only at hSw); (try go_split_ands); go_simp; try with_reducible rfl)
                try simp only [lAq,lBq,lCq,Act.put,lDq,lEq,lFq]
                refine tk 2 ?_ rfl (by kernel_rfl) (fun _ _ _ h => h) ⟨by rfl, ?_⟩ hHeld ?_; rotate_left
                · (intro wS hSw; (try dsimp only at hSw); (try go_split_ands); go_simp; try with_reducible rfl)
                try simp only [lAq,lBq,lCq,Act.put,lDq,lEq,lFq]
                refine tk 3 ?_ rfl (by kernel_rfl) (fun _ _ _ h => h) ⟨by rfl, ?_⟩ hHeld ?_; rotate_left
                · (intro wS hSw; (try dsimp only at hSw); (try go_split_ands); go_simp; try with_reducible rfl)
                try simp only [lAq,lBq,lCq,Act.put,lDq,lEq,lFq]
                refine wpAnyH_ready (rs := [4]) (by kernel_rfl) (by simp) ?_
                refine AllReadyH.cons rfl (fun K hK => ?_) AllReadyH.nil
                go_simp
                refine hK.out _ _ ?_ (fun hNext => ?_)
                · exact ⟨C12.out, CH.out⟩
                clear hK K hHeld
                have hHeld := hNext
                clear hNext
                try simp only [lAq,lBq,lCq,Act.put,lDq,lEq,lFq]
                refine tk 5 ?_ rfl (by kernel_rfl) (fun _ _ _ h => h) ⟨by rfl, ?_⟩ hHeld ?_; rotate_left
                · (intro wS hSw; (try dsimp only at hSw); (try go_split_ands); go_simp; try with_reducible rfl)
                try simp only [lAq,lBq,lCq,Act.put,lDq,lEq,lFq]
                refine tk 6 ?_ rfl (by kernel_rfl) (fun _ _ _ h => h) ⟨by rfl, ?_⟩ hHeld ?_; rotate_left
                · (intro wS hSw; (try dsimp only at hSw); (try go_split_ands); go_simp; try with_reducible rfl)
                try simp only [lAq,lBq,lCq,Act.put,lDq,lEq,lFq]
                refine tk 7 ?_ rfl (by kernel_rfl) (fun _ _ _ h => h) ⟨by rfl, ?_⟩ hHeld ?_; rotate_left
                · (intro wS hSw; (try dsimp only at hSw); (try go_split_ands); go_simp; try with_reducible rfl)
                try simp only [lAq,lBq,lCq,Act.put,lDq,lEq,lFq]
                refine tk 8 ?_ rfl (by kernel_rfl) (fun _ _ _ h => h) ⟨by rfl, ?_⟩ hHeld ?_; rotate_left
                · (intro wS hSw; (try dsimp only at hSw); (try go_split_ands); go_simp; try with_reducible rfl)
                try simp only [lAq,lBq,lCq,Act.put,lDq,lEq,lFq]
                refine tk 9 ?_ rfl (by kernel_rfl) (fun _ _ _ h => h) ⟨by rfl, ?_⟩ hHeld ?_; rotate_left
                · (intro wS hSw; (try dsimp only at hSw); (try go_split_ands); go_simp; try with_reducible rfl)
                try simp only [lAq,lBq,lCq,Act.put,lDq,lEq,lFq]
                refine wpAnyH_take (i := 10) (v := undef) rfl (by kernel_rfl) (by kernel_rfl) (by kernel_rfl) (fun _ _ _ h => h) (Or.inr ⟨by rfl, rfl⟩) hHeld ?_
                try simp only [lAq,lBq,lCq,Act.put,lDq,lEq,lFq]
                refine wpAnyH_take (i := 11) (v := undef) rfl (by kernel_rfl) (by kernel_rfl) (by kernel_rfl) (fun _ _ _ h => h) (Or.inr ⟨by rfl, rfl⟩) hHeld ?_
                try simp only [lAq,lBq,lCq,Act.put,lDq,lEq,lFq]
                refine wpAnyH_take (i := 12) (v := undef) rfl (by kernel_rfl) (by kernel_rfl) (by kernel_rfl) (fun _ _ _ h => h) (Or.inr ⟨by rfl, rfl⟩) hHeld ?_
                try simp only [lAq,lBq,lCq,Act.put,lDq,lEq,lFq]
                refine wpAnyH_take (i := 13) (v := undef) rfl (by kernel_rfl) (by kernel_rfl) (by kernel_rfl) (fun _ _ _ h => h) (Or.inr ⟨by rfl, rfl⟩) hHeld ?_
                try simp only [lAq,lBq,lCq,Act.put,lDq,lEq,lFq]
                refine wpAnyH_take (i := 14) (v := undef) rfl (by kernel_rfl) (by kernel_rfl) (by kernel_rfl) (fun _ _ _ h => h) (Or.inr ⟨by rfl, rfl⟩) hHeld ?_
                try simp only [lAq,lBq,lCq,Act.put,lDq,lEq,lFq]
                refine wpAnyH_take (i := 15) (v := undef) rfl (by kernel_rfl) (by kernel_rfl) (by kernel_rfl) (fun _ _ _ h => h) (Or.inr ⟨by rfl, rfl⟩) hHeld ?_
                try simp only [lAq,lBq,lCq,Act.put,lDq,lEq,lFq]
                refine tk 16 ?_ rfl (by kernel_rfl) (fun _ _ _ h => h) ⟨by rfl, ?_⟩ hHeld ?_; rotate_left
                · (intro wS hSw; (try dsimp only at hSw); (try go_split_ands); go_simp; try with_reducible rfl)
                try simp only [lAq,lBq,lCq,Act.put,lDq,lEq,lFq]
                refine tk 17 ?_ rfl (by kernel_rfl) (fun _ _ _ h => h) ⟨by rfl, ?_⟩ hHeld ?_; rotate_left
                · (intro wS hSw; (try dsimp only at hSw); (try go_split_ands); go_simp; try with_reducible rfl)
                try simp only [lAq,lBq,lCq,Act.put,lDq,lEq,lFq]
                refine tk 18 ?_ rfl (by kernel_rfl) (fun _ _ _ h => h) ⟨by rfl, ?_⟩ hHeld ?_; rotate_left
                · (intro wS hSw; (try dsimp only at hSw); (try go_split_ands); go_simp; try with_reducible rfl)
                try simp only [lAq,lBq,lCq,Act.put,lDq,lEq,lFq]
                refine tk 19 ?_ rfl (by kernel_rfl) (fun _ _ _ h => h) ⟨by rfl, ?_⟩ hHeld ?_; rotate_left
                · (intro wS hSw; (try dsimp only at hSw); (try go_split_ands); go_simp; try with_reducible rfl)
                try simp only [lAq,lBq,lCq,Act.put,lDq,lEq,lFq]
                refine tk 20 ?_ rfl (by kernel_rfl) (fun _ _ _ h => h) ⟨by rfl, ?_⟩ hHeld ?_; rotate_left
                · (intro wS hSw; (try dsimp only at hSw); (try go_split_ands); go_simp; try with_reducible rfl)
                try simp only [lAq,lBq,lCq,Act.put,lDq,lEq,lFq]
                refine tk 21 ?_ rfl (by kernel_rfl) (fun _ _ _ h => h) ⟨by rfl, ?_⟩ hHeld ?_; rotate_left
                · (intro wS hSw; (try dsimp only at hSw); (try go_split_ands); go_simp; try with_reducible rfl)
                try simp only [lAq,lBq,lCq,Act.put,lDq,lEq,lFq]
                refine tk 22 ?_ rfl (by kernel_rfl) (fun _ _ _ h => h) ⟨by rfl, ?_⟩ hHeld ?_; rotate_left
                · (intro wS hSw; (try dsimp only at hSw); (try go_split_ands); go_simp; try with_reducible rfl)
                try simp only [lAq,lBq,lCq,Act.put,lDq,lEq,lFq]
                refine tk 23 ?_ rfl (by kernel_rfl) (fun _ _ _ h => h) ⟨by rfl, ?_⟩ hHeld ?_; rotate_left
                · (intro wS hSw; (try dsimp only at hSw); (try go_split_ands); go_simp; try with_reducible rfl)
                try simp only [lAq,lBq,lCq,Act.put,lDq,lEq,lFq]
                refine tk 24 ?_ rfl (by kernel_rfl) (fun _ _ _ h => h) ⟨by rfl, ?_⟩ hHeld ?_; rotate_left
                · (intro wS hSw; (try dsimp only at hSw); (try go_split_ands); go_simp; try with_reducible rfl)
                try simp only [lAq,lBq,lCq,Act.put,lDq,lEq,lFq]
                refine tk 25 ?_ rfl (by kernel_rfl) (fun _ _ _ h => h) ⟨by rfl, ?_⟩ hHeld ?_; rotate_left
                · (intro wS hSw; (try dsimp only at hSw); (try go_split_ands); go_simp; try with_reducible rfl)
                try simp only [lAq,lBq,lCq,Act.put,lDq,lEq,lFq]
                refine tk 26 ?_ rfl (by kernel_rfl) (fun _ _ _ h => h) ⟨by rfl, ?_⟩ hHeld ?_; rotate_left
                · (intro wS hSw; (try dsimp only at hSw); (try go_split_ands); go_simp; try with_reducible rfl)
                try simp only [lAq,lBq,lCq,Act.put,lDq,lEq,lFq]
                refine tk 27 ?_ rfl (by kernel_rfl) (fun _ _ _ h => h) ⟨by rfl, ?_⟩ hHeld ?_; rotate_left
                · (intro wS hSw; (try dsimp only at hSw); (try go_split_ands); go_simp; try with_reducible rfl)
                try simp only [lAq,lBq,lCq,Act.put,lDq,lEq,lFq]
                refine tk 28 ?_ rfl (by kernel_rfl) (fun _ _ _ h => h) ⟨by rfl, ?_⟩ hHeld ?_; rotate_left
                · (intro wS hSw; (try dsimp only at hSw); (try go_split_ands); go_simp; try with_reducible rfl)
                try simp only [lAq,lBq,lCq,Act.put,lDq,lEq,lFq]
                refine tk 29 ?_ rfl (by kernel_rfl) (fun _ _ _ h => h) ⟨by rfl, ?_⟩ hHeld ?_; rotate_left
                · (intro wS hSw; (try dsimp only at hSw); (try go_split_ands); go_simp; try with_reducible rfl)
                try simp only [lAq,lBq,lCq,Act.put,lDq,lEq,lFq]
                refine tk 30 ?_ rfl (by kernel_rfl) (fun _ _ _ h => h) ⟨by rfl, ?_⟩ hHeld ?_; rotate_left
                · (intro wS hSw; (try dsimp only at hSw); (try go_split_ands); go_simp; try with_reducible rfl)
                try simp only [lAq,lBq,lCq,Act.put,lDq,lEq,lFq]
                refine tk 31 ?_ rfl (by kernel_rfl) (fun _ _ _ h => h) ⟨by rfl, ?_⟩ hHeld ?_; rotate_left
                · (intro wS hSw; (try dsimp only at hSw); (try go_split_ands); go_simp; try with_reducible rfl)
                try simp only [lAq,lBq,lCq,Act.put,lDq,lEq,lFq]
                refine tk 32 ?_ rfl (by kernel_rfl) (fun _ _ _ h => h) ⟨by rfl, ?_⟩ hHeld ?_; rotate_left
                · (intro wS hSw; (try dsimp only at hSw); (try go_split_ands); go_simp; try with_reducible rfl)
                try simp only [lAq,lBq,lCq,Act.put,lDq,lEq,lFq]
                refine wpAnyH_ready (rs := [33]) (by kernel_rfl) (by simp) ?_
                refine AllReadyH.cons rfl (fun K hK => ?_) AllReadyH.nil
                go_simp
                refine hK.out _ _ ?_ (fun hNext => ?_)
                · exact ⟨setO C12.out (.inl NE12.out), setO CH.out (.inl NEH.out)⟩
                clear hK K hHeld
                have hHeld := hNext
                clear hNext
                try simp only [lAq,lBq,lCq,Act.put,lDq,lEq,lFq]
                refine wpAnyH_done (by kernel_rfl) ?_ _
                go_wp2_with (fail)
                go_roundg (p.length - (m + 1))
                case measure => omega
                case rel => exact ⟨m + 1, false, rfl, by omega, by go_num, NXT.out false ⟨fun _ => ⟨by trivial, fun x e => (by cases e), fun y e => (by cases e; omega)⟩, fun _ => rfl⟩, (by first | exact FA.out false | exact FB.out false)⟩
          · by_cases hl : x0 < xl
            · generalize hvh : bdv hi = vh
              simp only [bdv]
              have CL := Lib.hid (HL1.out gl xl rfl).1
              have NEL := Lib.hid (show pb ≠ gl from fun e => (HL1.out gl xl rfl).2.1 (.inl e.symm))
              have cl := CL.out
              have hlt : decide (x0 < xl) = true := decide_eq_true hl
              refine wp_region_held_drew (S := (fun V => V.cell? ⟨q12, 0, none⟩ = some (.int .i64 x0) ∧ V.cell? ⟨gl, 0, none⟩ = some (.int .i64 xl))) (by kernel_rfl) (⟨C12.out, CL.out⟩) (fun hHeld => ?_)
              refine tk 0 ?_ rfl (by kernel_rfl) (fun _ _ _ h => h) ⟨by rfl, ?_⟩ hHeld ?_; rotate_left
              · (intro wS hSw; (try dsimp only at hSw); (try go_split_ands); go_simp; try with_reducible rfl)
              try simp only [lAq,lBq,lCq,Act.put,lDq,lEq,lFq]
              refine tk 1 ?_ rfl (by kernel_rfl) (fun _ _ _ h => h) ⟨by rfl, ?_⟩ hHeld ?_; rotate_left
              · (intro wS hSw; (try dsimp only at hSw); (try go_split_ands); go_simp; try with_reducible rfl)
              try simp only [lAq,lBq,lCq,Act.put,lDq,lEq,lFq]
              refine tk 2 ?_ rfl (by kernel_rfl) (fun _ _ _ h => h) ⟨by rfl, ?_⟩ hHeld ?_; rotate_left
              · (intro wS hSw; (try dsimp only at hSw); (try go_split_ands); go_simp; try with_reducible rfl)
              try simp only [lAq,lBq,lCq,Act.put,lDq,lEq,lFq]
              refine tk 3 ?_ rfl (by kernel_rfl) (fun _ _ _ h => h) ⟨by rfl, ?_⟩ hHeld ?_; rotate_left
              · (intro wS hSw; (try dsimp only at hSw); (try go_split_ands); go_simp; try with_reducible rfl)
              try simp only [lAq,lBq,lCq,Act.put,lDq,lEq,lFq]
              refine wpAnyH_ready (rs := [4]) (by kernel_rfl) (by simp) ?_
              refine AllReadyH.cons rfl (fun K hK => ?_) AllReadyH.nil
              go_simp
              refine hK.out _ _ ?_ (fun hNext => ?_)
              · exact ⟨C12.out, CL.out⟩
              clear hK K hHeld
              have hHeld := hNext
              clear hNext
              try simp only [lAq,lBq,lCq,Act.put,lDq,lEq,lFq]
              refine tk 5 ?_ rfl (by kernel_rfl) (fun _ _ _ h => h) ⟨by rfl, ?_⟩ hHeld ?_; rotate_left
              · (intro wS hSw; (try dsimp only at hSw); (try go_split_ands); go_simp; try with_reducible rfl)
              try simp only [lAq,lBq,lCq,Act.put,lDq,lEq,lFq]
              refine tk 6 ?_ rfl (by kernel_rfl) (fun _ _ _ h => h) ⟨by rfl, ?_⟩ hHeld ?_; rotate_left
              · (intro wS hSw; (try dsimp only at hSw); (try go_split_ands); go_simp; try with_reducible rfl)
              try simp only [lAq,lBq,lCq,Act.put,lDq,lEq,lFq]
              refine tk 7 ?_ rfl (by kernel_rfl) (fun _ _ _ h => h) ⟨by rfl, ?_⟩ hHeld ?_; rotate_left
              · (intro wS hSw; (try dsimp only at hSw); (try go_split_ands); go_simp; try with_reducible rfl)
              try simp only [lAq,lBq,lCq,Act.put,lDq,lEq,lFq]
              refine tk 8 ?_ rfl (by kernel_rfl) (fun _ _ _ h => h) ⟨by rfl, ?_⟩ hHeld ?_; rotate_left
              · (intro wS hSw; (try dsimp only at hSw); (try go_split_ands); go_simp; try with_reducible rfl)
              try simp only [lAq,lBq,lCq,Act.put,lDq,lEq,lFq]
              refine tk 9 ?_ rfl (by kernel_rfl) (fun _ _ _ h => h) ⟨by rfl, ?_⟩ hHeld ?_; rotate_left
              · (intro wS hSw; (try dsimp only at hSw); (try go_split_ands); go_simp; try with_reducible rfl)
              try simp only [lAq,lBq,lCq,Act.put,lDq,lEq,lFq]
              refine tk 10 ?_ rfl (by kernel_rfl) (fun _ _ _ h => h) ⟨by rfl, ?_⟩ hHeld ?_; rotate_left
              · (intro wS hSw; (try dsimp only at hSw); (try go_split_ands); go_simp; try with_reducible rfl)
              try simp only [lAq,lBq,lCq,Act.put,lDq,lEq,lFq]
              refine tk 11 ?_ rfl (by kernel_rfl) (fun _ _ _ h => h) ⟨by rfl, ?_⟩ hHeld ?_; rotate_left
              · (intro wS hSw; (try dsimp only at hSw); (try go_split_ands); go_simp; try with_reducible rfl)
              try simp only [lAq,lBq,lCq,Act.put,lDq,lEq,lFq]
              refine tk 12 ?_ rfl (by kernel_rfl) (fun _ _ _ h => h) ⟨by rfl, ?_⟩ hHeld ?_; rotate_left
              · (intro wS hSw; (try dsimp only at hSw); (try go_split_ands); go_simp; try with_reducible rfl)
              try simp only [lAq,lBq,lCq,Act.put,lDq,lEq,lFq]
              refine tk 13 ?_ rfl (by kernel_rfl) (fun _ _ _ h => h) ⟨by rfl, ?_⟩ hHeld ?_; rotate_left
              · (intro wS hSw; (try dsimp only at hSw); (try go_split_ands); go_simp; try with_reducible rfl)
              try simp only [lAq,lBq,lCq,Act.put,lDq,lEq,lFq]
              refine tk 14 ?_ rfl (by kernel_rfl) (fun _ _ _ h => h) ⟨by rfl, ?_⟩ hHeld ?_; rotate_left
              · (intro wS hSw; (try dsimp only at hSw); (try go_split_ands); go_simp; try with_reducible rfl)
              try simp only [lAq,lBq,lCq,Act.put,lDq,lEq,lFq]
              refine tk 15 ?_ rfl (by kernel_rfl) (fun _ _ _ h => h) ⟨by rfl, ?_⟩ hHeld ?_; rotate_left
              · (intro wS hSw; (try dsimp only at hSw); (try go_split_ands); go_simp; try with_reducible rfl)
              try simp only [lAq,lBq,lCq,Act.put,lDq,lEq,lFq]
              refine tk 16 ?_ rfl (by kernel_rfl) (fun _ _ _ h => h) ⟨by rfl, ?_⟩ hHeld ?_; rotate_left
              · (intro wS hSw; (try dsimp only at hSw); (try go_split_ands); go_simp; try with_reducible rfl)
              try simp only [lAq,lBq,lCq,Act.put,lDq,lEq,lFq]
              refine tk 17 ?_ rfl (by kernel_rfl) (fun _ _ _ h => h) ⟨by rfl, ?_⟩ hHeld ?_; rotate_left
              · (intro wS hSw; (try dsimp only at hSw); (try go_split_ands); go_simp; try with_reducible rfl)
              try simp only [lAq,lBq,lCq,Act.put,lDq,lEq,lFq]
              refine tk 18 ?_ rfl (by kernel_rfl) (fun _ _ _ h => h) ⟨by rfl, ?_⟩ hHeld ?_; rotate_left
              · (intro wS hSw; (try dsimp only at hSw); (try go_split_ands); go_simp; try with_reducible rfl)
              try simp only [lAq,lBq,lCq,Act.put,lDq,lEq,lFq]
              refine wpAnyH_take (i := 19) (v := undef) rfl (by kernel_rfl) (by kernel_rfl) (by kernel_rfl) (fun _ _ _ h => h) (Or.inr ⟨by rfl, rfl⟩) hHeld ?_
              try simp only [lAq,lBq,lCq,Act.put,lDq,lEq,lFq]
              refine wpAnyH_take (i := 20) (v := undef) rfl (by kernel_rfl) (by kernel_rfl) (by kernel_rfl) (fun _ _ _ h => h) (Or.inr ⟨by rfl, rfl⟩) hHeld ?_
              try simp only [lAq,lBq,lCq,Act.put,lDq,lEq,lFq]
              refine wpAnyH_take (i := 21) (v := undef) rfl (by kernel_rfl) (by kernel_rfl) (by kernel_rfl) (fun _ _ _ h => h) (Or.inr ⟨by rfl, rfl⟩) hHeld ?_
              try simp only [lAq,lBq,lCq,Act.put,lDq,lEq,lFq]
              refine wpAnyH_take (i := 22) (v := undef) rfl (by kernel_rfl) (by kernel_rfl) (by kernel_rfl) (fun _ _ _ h => h) (Or.inr ⟨by rfl, rfl⟩) hHeld ?_
              try simp only [lAq,lBq,lCq,Act.put,lDq,lEq,lFq]
              refine wpAnyH_take (i := 23) (v := undef) rfl (by kernel_rfl) (by kernel_rfl) (by kernel_rfl) (fun _ _ _ h => h) (Or.inr ⟨by rfl, rfl⟩) hHeld ?_
              try simp only [lAq,lBq,lCq,Act.put,lDq,lEq,lFq]
              refine wpAnyH_take (i := 24) (v := undef) rfl (by kernel_rfl) (by kernel_rfl) (by kernel_rfl) (fun _ _ _ h => h) (Or.inr ⟨by rfl, rfl⟩) hHeld ?_
              try simp only [lAq,lBq,lCq,Act.put,lDq,lEq,lFq]
              refine wpAnyH_take (i := 25) (v := undef) rfl (by kernel_rfl) (by kernel_rfl) (by kernel_rfl) (fun _ _ _ h => h) (Or.inr ⟨by rfl, rfl⟩) hHeld ?_
              try simp only [lAq,lBq,lCq,Act.put,lDq,lEq,lFq]
              refine wpAnyH_take (i := 26) (v := undef) rfl (by kernel_rfl) (by kernel_rfl) (by kernel_rfl) (fun _ _ _ h => h) (Or.inr ⟨by rfl, rfl⟩) hHeld ?_
              try simp only [lAq,lBq,lCq,Act.put,lDq,lEq,lFq]
              refine wpAnyH_take (i := 27) (v := undef) rfl (by kernel_rfl) (by kernel_rfl) (by kernel_rfl) (fun _ _ _ h => h) (Or.inr ⟨by rfl, rfl⟩) hHeld ?_
              try simp only [lAq,lBq,lCq,Act.put,lDq,lEq,lFq]
              refine wpAnyH_take (i := 28) (v := undef) rfl (by kernel_rfl) (by kernel_rfl) (by kernel_rfl) (fun _ _ _ h => h) (Or.inr ⟨by rfl, rfl⟩) hHeld ?_
              try simp only [lAq,lBq,lCq,Act.put,lDq,lEq,lFq]
              refine wpAnyH_take (i := 29) (v := undef) rfl (by kernel_rfl) (by kernel_rfl) (by kernel_rfl) (fun _ _ _ h => h) (Or.inr ⟨by rfl, rfl⟩) hHeld ?_
              try simp only [lAq,lBq,lCq,Act.put,lDq,lEq,lFq]
              refine tk 30 ?_ rfl (by kernel_rfl) (fun _ _ _ h => h) ⟨by rfl, ?_⟩ hHeld ?_; rotate_left
              · (intro wS hSw; (try dsimp only at hSw); (try go_split_ands); go_simp; try with_reducible rfl)
              try simp only [lAq,lBq,lCq,Act.put,lDq,lEq,lFq]
              refine tk 31 ?_ rfl (by kernel_rfl) (fun _ _ _ h => h) ⟨by rfl, ?_⟩ hHeld ?_; rotate_left
              · (intro wS hSw; (try dsimp only at hSw); (try go_split_ands); go_simp; try with_reducible rfl)
              try simp only [lAq,lBq,lCq,Act.put,lDq,lEq,lFq]
              refine tk 32 ?_ rfl (by kernel_rfl) (fun _ _ _ h => h) ⟨by rfl, ?_⟩ hHeld ?_; rotate_left
              · (intro wS hSw; (try dsimp only at hSw); (try go_split_ands); go_simp; try with_reducible rfl)
              try simp only [lAq,lBq,lCq,Act.put,lDq,lEq,lFq]
              refine wpAnyH_ready (rs := [33]) (by kernel_rfl) (by simp) ?_
              refine AllReadyH.cons rfl (fun K hK => ?_) AllReadyH.nil
              go_simp
              refine hK.out _ _ ?_ (fun hNext => ?_)
              · exact ⟨setO C12.out (.inl NE12.out), setO CL.out (.inl NEL.out)⟩
              clear hK K hHeld
              have hHeld := hNext
              clear hNext
              try simp only [lAq,lBq,lCq,Act.put,lDq,lEq,lFq]
              refine wpAnyH_done (by kernel_rfl) ?_ _
              go_wp2_with (fail)
              subst hvh
              go_roundg (p.length - (m + 1))
              case measure => omega
              case rel => exact ⟨m + 1, true, rfl, by omega, by go_num, NXT.out true ⟨fun h => (by cases h), fun h => absurd (h.2.1 xl rfl) (by omega)⟩, (by first | exact FA.out true | exact FB.out true)⟩
            · have hlf : decide (x0 < xl) = false := decide_eq_false hl
              rcases hi with _ | ⟨gh, xh⟩
              · simp only [bdv]
                have CL := Lib.hid (HL1.out gl xl rfl).1
                have NEL := Lib.hid (show pb ≠ gl from fun e => (HL1.out gl xl rfl).2.1 (.inl e.symm))
                have cl := CL.out
                refine wp_region_held_drew (S := (fun V => V.cell? ⟨q12, 0, none⟩ = some (.int .i64 x0) ∧ V.cell? ⟨gl, 0, none⟩ = some (.int .i64 xl))) (by kernel_rfl) (⟨C12.out, CL.out⟩) (fun hHeld => ?_)
                refine tk 0 ?_ rfl (by kernel_rfl) (fun _ _ _ h => h) ⟨by rfl, ?_⟩ hHeld ?_; rotate_left
                · (intro wS hSw; (try dsimp only at hSw); (try go_split_ands); go_simp; try with_reducible rfl)
                try simp only [lAq,lBq,lCq,Act.put,lDq,lEq,lFq]
                refine tk 1 ?_ rfl (by kernel_rfl) (fun _ _ _ h => h) ⟨by rfl, ?_⟩ hHeld ?_; rotate_left
                · (intro wS hSw; (try dsimp only at hSw); (try go_split_ands); go_simp; try with_reducible rfl)
                try simp only [lAq,lBq,lCq,Act.put,lDq,lEq,lFq]
                refine tk 2 ?_ rfl (by kernel_rfl) (fun _ _ _ h => h) ⟨by rfl, ?_⟩ hHeld ?_; rotate_left
                · (intro wS hSw; (try dsimp only at hSw); (try go_split_ands); go_simp; try with_reducible rfl)
                try simp only [lAq,lBq,lCq,Act.put,lDq,lEq,lFq]
                refine tk 3 ?_ rfl (by kernel_rfl) (fun _ _ _ h => h) ⟨by rfl, ?_⟩ hHeld ?_; rotate_left
                · (intro wS hSw; (try dsimp only at hSw); (try go_split_ands); go_simp; try with_reducible rfl)
                try simp only [lAq,lBq,lCq,Act.put,lDq,lEq,lFq]
                refine wpAnyH_ready (rs := [4]) (by kernel_rfl) (by simp) ?_
                refine AllReadyH.cons rfl (fun K hK => ?_) AllReadyH.nil
                go_simp
                refine hK.out _ _ ?_ (fun hNext => ?_)
                · exact ⟨C12.out, CL.out⟩
                clear hK K hHeld
                have hHeld := hNext
                clear hNext
                try simp only [lAq,lBq,lCq,Act.put,lDq,lEq,lFq]
                refine tk 5 ?_ rfl (by kernel_rfl) (fun _ _ _ h => h) ⟨by rfl, ?_⟩ hHeld ?_; rotate_left
                · (intro wS hSw; (try dsimp only at hSw); (try go_split_ands); go_simp; try with_reducible rfl)
                try simp only [lAq,lBq,lCq,Act.put,lDq,lEq,lFq]
                refine tk 6 ?_ rfl (by kernel_rfl) (fun _ _ _ h => h) ⟨by rfl, ?_⟩ hHeld ?_; rotate_left
                · (intro wS hSw; (try dsimp only at hSw); (try go_split_ands); go_simp; try with_reducible rfl)
                try simp only [lAq,lBq,lCq,Act.put,lDq,lEq,lFq]
                refine tk 7 ?_ rfl (by kernel_rfl) (fun _ _ _ h => h) ⟨by rfl, ?_⟩ hHeld ?_; rotate_left
                · (intro wS hSw; (try dsimp only at hSw); (try go_split_ands); go_simp; try with_reducible rfl)
                try simp only [lAq,lBq,lCq,Act.put,lDq,lEq,lFq]
                refine tk 8 ?_ rfl (by kernel_rfl) (fun _ _ _ h => h) ⟨by rfl, ?_⟩ hHeld ?_; rotate_left
                · (intro wS hSw; (try dsimp only at hSw); (try go_split_ands); go_simp; try with_reducible rfl)
                try simp only [lAq,lBq,lCq,Act.put,lDq,lEq,lFq]
                refine tk 9 ?_ rfl (by kernel_rfl) (fun _ _ _ h => h) ⟨by rfl, ?_⟩ hHeld ?_; rotate_left
                · (intro wS hSw; (try dsimp only at hSw); (try go_split_ands); go_simp; try with_reducible rfl)
                try simp only [lAq,lBq,lCq,Act.put,lDq,lEq,lFq]
                refine tk 10 ?_ rfl (by kernel_rfl) (fun _ _ _ h => h) ⟨by rfl, ?_⟩ hHeld ?_; rotate_left
                · (intro wS hSw; (try dsimp only at hSw); (try go_split_ands); go_simp; try with_reducible rfl)
                try simp only [lAq,lBq,lCq,Act.put,lDq,lEq,lFq]
                refine tk 11 ?_ rfl (by kernel_rfl) (fun _ _ _ h => h) ⟨by rfl, ?_⟩ hHeld ?_; rotate_left
                · (intro wS hSw; (try dsimp only at hSw); (try go_split_ands); go_simp; try with_reducible rfl)
                try simp only [lAq,lBq,lCq,Act.put,lDq,lEq,lFq]
                refine tk 12 ?_ rfl (by kernel_rfl) (fun _ _ _ h => h) ⟨by rfl, ?_⟩ hHeld ?_; rotate_left
                · (intro wS hSw; (try dsimp only at hSw); (try go_split_ands); go_simp; try with_reducible rfl)
                try simp only [lAq,lBq,lCq,Act.put,lDq,lEq,lFq]
                refine tk 13 ?_ rfl (by kernel_rfl) (fun _ _ _ h => h) ⟨by rfl, ?_⟩ hHeld ?_; rotate_left
                · (intro wS hSw; (try dsimp only at hSw); (try go_split_ands); go_simp; try with_reducible rfl)
                try simp only [lAq,lBq,lCq,Act.put,lDq,lEq,lFq]
                refine tk 14 ?_ rfl (by kernel_rfl) (fun _ _ _ h => h) ⟨by rfl, ?_⟩ hHeld ?_; rotate_left
                · (intro wS hSw; (try dsimp only at hSw); (try go_split_ands); go_simp; try with_reducible rfl)
                try simp only [lAq,lBq,lCq,Act.put,lDq,lEq,lFq]
                refine tk 15 ?_ rfl (by kernel_rfl) (fun _ _ _ h => h) ⟨by rfl, ?_⟩ hHeld ?_; rotate_left
                · (intro wS hSw; (try dsimp only at hSw); (try go_split_ands); go_simp; try with_reducible rfl)
                try simp only [lAq,lBq,lCq,Act.put,lDq,lEq,lFq]
                refine tk 16 ?_ rfl (by kernel_rfl) (fun _ _ _ h => h) ⟨by rfl, ?_⟩ hHeld ?_; rotate_left
                · (intro wS hSw; (try dsimp only at hSw); (try go_split_ands); go_simp; try with_reducible rfl)
                try simp only [lAq,lBq,lCq,Act.put,lDq,lEq,lFq]
                refine tk 17 ?_ rfl (by kernel_rfl) (fun _ _ _ h => h) ⟨by rfl, ?_⟩ hHeld ?_; rotate_left
                · (intro wS hSw; (try dsimp only at hSw); (try go_split_ands); go_simp; try with_reducible rfl)
                try simp only [lAq,lBq,lCq,Act.put,lDq,lEq,lFq]
                refine tk 18 ?_ rfl (by kernel_rfl) (fun _ _ _ h => h) ⟨by rfl, ?_⟩ hHeld ?_; rotate_left
                · (intro wS hSw; (try dsimp only at hSw); (try go_split_ands); go_simp; try with_reducible rfl)
                try simp only [lAq,lBq,lCq,Act.put,lDq,lEq,lFq]
                refine tk 19 ?_ rfl (by kernel_rfl) (fun _ _ _ h => h) ⟨by rfl, ?_⟩ hHeld ?_; rotate_left
                · (intro wS hSw; (try dsimp only at hSw); (try go_split_ands); go_simp; try with_reducible rfl)
                try simp only [lAq,lBq,lCq,Act.put,lDq,lEq,lFq]
                refine tk 20 ?_ rfl (by kernel_rfl) (fun _ _ _ h => h) ⟨by rfl, ?_⟩ hHeld ?_; rotate_left
                · (intro wS hSw; (try dsimp only at hSw); (try go_split_ands); go_simp; try with_reducible rfl)
                try simp only [lAq,lBq,lCq,Act.put,lDq,lEq,lFq]
                refine tk 21 ?_ rfl (by kernel_rfl) (fun _ _ _ h => h) ⟨by rfl, ?_⟩ hHeld ?_; rotate_left
                · (intro wS hSw; (try dsimp only at hSw); (try go_split_ands); go_simp; try with_reducible rfl)
                try simp only [lAq,lBq,lCq,Act.put,lDq,lEq,lFq]
                refine tk 22 ?_ rfl (by kernel_rfl) (fun _ _ _ h => h) ⟨by rfl, ?_⟩ hHeld ?_; rotate_left
                · (intro wS hSw; (try dsimp only at hSw); (try go_split_ands); go_simp; try with_reducible rfl)
                try simp only [lAq,lBq,lCq,Act.put,lDq,lEq,lFq]
                refine wpAnyH_take (i := 23) (v := undef) rfl (by kernel_rfl) (by kernel_rfl) (by kernel_rfl) (fun _ _ _ h => h) (Or.inr ⟨by rfl, rfl⟩) hHeld ?_
                try simp only [lAq,lBq,lCq,Act.put,lDq,lEq,lFq]
                refine wpAnyH_take (i := 24) (v := undef) rfl (by kernel_rfl) (by kernel_rfl) (by kernel_rfl) (fun _ _ _ h => h) (Or.inr ⟨by rfl, rfl⟩) hHeld ?_
                try simp only [lAq,lBq,lCq,Act.put,lDq,lEq,lFq]
                refine wpAnyH_take (i := 25) (v := undef) rfl (by kernel_rfl) (by kernel_rfl) (by kernel_rfl) (fun _ _ _ h => h) (Or.inr ⟨by rfl, rfl⟩) hHeld ?_
                try simp only [lAq,lBq,lCq,Act.put,lDq,lEq,lFq]
                refine wpAnyH_take (i := 26) (v := undef) rfl (by kernel_rfl) (by kernel_rfl) (by kernel_rfl) (fun _ _ _ h => h) (Or.inr ⟨by rfl, rfl⟩) hHeld ?_
                try simp only [lAq,lBq,lCq,Act.put,lDq,lEq,lFq]
                refine wpAnyH_take (i := 27) (v := undef) rfl (by kernel_rfl) (by kernel_rfl) (by kernel_rfl) (fun _ _ _ h => h) (Or.inr ⟨by rfl, rfl⟩) hHeld ?_
                try simp only [lAq,lBq,lCq,Act.put,lDq,lEq,lFq]
                refine wpAnyH_take (i := 28) (v := undef) rfl (by kernel_rfl) (by kernel_rfl) (by kernel_rfl) (fun _ _ _ h => h) (Or.inr ⟨by rfl, rfl⟩) hHeld ?_
                try simp only [lAq,lBq,lCq,Act.put,lDq,lEq,lFq]
                refine tk 29 ?_ rfl (by kernel_rfl) (fun _ _ _ h => h) ⟨by rfl, ?_⟩ hHeld ?_; rotate_left
                · (intro wS hSw; (try dsimp only at hSw); (try go_split_ands); go_simp; try with_reducible rfl)
                try simp only [lAq,lBq,lCq,Act.put,lDq,lEq,lFq]
                refine tk 30 ?_ rfl (by kernel_rfl) (fun _ _ _ h => h) ⟨by rfl, ?_⟩ hHeld ?_; rotate_left
                · (intro wS hSw; (try dsimp only at hSw); (try go_split_ands); go_simp; try with_reducible rfl)
                try simp only [lAq,lBq,lCq,Act.put,lDq,lEq,lFq]
                refine tk 31 ?_ rfl (by kernel_rfl) (fun _ _ _ h => h) ⟨by rfl, ?_⟩ hHeld ?_; rotate_left
                · (intro wS hSw; (try dsimp only at hSw); (try go_split_ands); go_simp; try with_reducible rfl)
                try simp only [lAq,lBq,lCq,Act.put,lDq,lEq,lFq]
                refine tk 32 ?_ rfl (by kernel_rfl) (fun _ _ _ h => h) ⟨by rfl, ?_⟩ hHeld ?_; rotate_left
                · (intro wS hSw; (try dsimp only at hSw); (try go_split_ands); go_simp; try with_reducible rfl)
                try simp only [lAq,lBq,lCq,Act.put,lDq,lEq,lFq]
                refine wpAnyH_ready (rs := [33]) (by kernel_rfl) (by simp) ?_
                refine AllReadyH.cons rfl (fun K hK => ?_) AllReadyH.nil
                go_simp
                refine hK.out _ _ ?_ (fun hNext => ?_)
                · exact ⟨setO C12.out (.inl NE12.out), setO CL.out (.inl NEL.out)⟩
                clear hK K hHeld
                have hHeld := hNext
                clear hNext
                try simp only [lAq,lBq,lCq,Act.put,lDq,lEq,lFq]
                refine wpAnyH_done (by kernel_rfl) ?_ _
                go_wp2_with (fail)
                go_roundg (p.length - (m + 1))
                case measure => omega
                case rel => exact ⟨m + 1, false, rfl, by omega, by go_num, NXT.out false ⟨fun _ => ⟨by trivial, fun x e => (by cases e; omega), fun y e => (by cases e)⟩, fun _ => rfl⟩, (by first | exact FA.out false | exact FB.out false)⟩
              · simp only [bdv]
                by_cases hx : xh ≤ x0
                · skip
                  have CL := Lib.hid (HL1.out gl xl rfl).1
                  have NEL := Lib.hid (show pb ≠ gl from fun e => (HL1.out gl xl rfl).2.1 (.inl e.symm))
                  have cl := CL.out
                  have CH := Lib.hid (HL2.out gh xh rfl).1
                  have NEH := Lib.hid (show pb ≠ gh from fun e => (HL2.out gh xh rfl).2.1 (.inl e.symm))
                  have ch := CH.out
                  have hxt : decide (xh ≤ x0) = true := decide_eq_true hx
                  refine wp_region_held_drew (S := (fun V => V.cell? ⟨q12, 0, none⟩ = some (.int .i64 x0) ∧ V.cell? ⟨gl, 0, none⟩ = some (.int .i64 xl) ∧ V.cell? ⟨gh, 0, none⟩ = some (.int .i64 xh))) (by kernel_rfl) (⟨C12.out, CL.out, CH.out⟩) (fun hHeld => ?_)
                  refine tk 0 ?_ rfl (by kernel_rfl) (fun _ _ _ h => h) ⟨by rfl, ?_⟩ hHeld ?_; rotate_left
                  · (intro wS hSw; (try dsimp only at hSw); (try go_split_ands); go_simp; try with_reducible rfl)
                  try simp only [lAq,lBq,lCq,Act.put,lDq,lEq,lFq]
                  refine tk 1 ?_ rfl (by kernel_rfl) (fun _ _ _ h => h) ⟨by rfl, ?_⟩ hHeld ?_; rotate_left
                  · (intro wS hSw; (try dsimp only at hSw); (try go_split_ands); go_simp; try with_reducible rfl)
                  try simp only [lAq,lBq,lCq,Act.put,lDq,lEq,lFq]
                  refine tk 2 ?_ rfl (by kernel_rfl) (fun _ _ _ h => h) ⟨by rfl, ?_⟩ hHeld ?_; rotate_left
                  · (intro wS hSw; (try dsimp only at hSw); (try go_split_ands); go_simp; try with_reducible rfl)
                  try simp only [lAq,lBq,lCq,Act.put,lDq,lEq,lFq]
                  refine tk 3 ?_ rfl (by kernel_rfl) (fun _ _ _ h => h) ⟨by rfl, ?_⟩ hHeld ?_; rotate_left
                  · (intro wS hSw; (try dsimp only at hSw); (try go_split_ands); go_simp; try with_reducible rfl)
                  try simp only [lAq,lBq,lCq,Act.put,lDq,lEq,lFq]
                  refine wpAnyH_ready (rs := [4]) (by kernel_rfl) (by simp) ?_
                  refine AllReadyH.cons rfl (fun K hK => ?_) AllReadyH.nil
                  go_simp
                  refine hK.out _ _ ?_ (fun hNext => ?_)
                  · exact ⟨C12.out, CL.out, CH.out⟩
                  clear hK K hHeld
                  have hHeld := hNext
                  clear hNext
                  try simp only [lAq,lBq,lCq,Act.put,lDq,lEq,lFq]
                  refine tk 5 ?_ rfl (by kernel_rfl) (fun _ _ _ h => h) ⟨by rfl, ?_⟩ hHeld ?_; rotate_left
                  · (intro wS hSw; (try dsimp only at hSw); (try go_split_ands); go_simp; try with_reducible rfl)
                  try simp only [lAq,lBq,lCq,Act.put,lDq,lEq,lFq]
                  refine tk 6 ?_ rfl (by kernel_rfl) (fun _ _ _ h => h) ⟨by rfl, ?_⟩ hHeld ?_; rotate_left
                  · (intro wS hSw; (try dsimp only at hSw); (try go_split_ands); go_simp; try with_reducible rfl)
                  try simp only [lAq,lBq,lCq,Act.put,lDq,lEq,lFq]
                  refine tk 7 ?_ rfl (by kernel_rfl) (fun _ _ _ h => h) ⟨by rfl, ?_⟩ hHeld ?_; rotate_left
                  · (intro wS hSw; (try dsimp only at hSw); (try go_split_ands); go_simp; try with_reducible rfl)
                  try simp only [lAq,lBq,lCq,Act.put,lDq,lEq,lFq]
                  refine tk 8 ?_ rfl (by kernel_rfl) (fun _ _ _ h => h) ⟨by rfl, ?_⟩ hHeld ?_; rotate_left
                  · (intro wS hSw; (try dsimp only at hSw); (try go_split_ands); go_simp; try with_reducible rfl)
                  try simp only [lAq,lBq,lCq,Act.put,lDq,lEq,lFq]
                  refine tk 9 ?_ rfl (by kernel_rfl) (fun _ _ _ h => h) ⟨by rfl, ?_⟩ hHeld ?_; rotate_left
                  · (intro wS hSw; (try dsimp only at hSw); (try go_split_ands); go_simp; try with_reducible rfl)
                  try simp only [lAq,lBq,lCq,Act.put,lDq,lEq,lFq]
                  refine tk 10 ?_ rfl (by kernel_rfl) (fun _ _ _ h => h) ⟨by rfl, ?_⟩ hHeld ?_; rotate_left
                  · (intro wS hSw; (try dsimp only at hSw); (try go_split_ands); go_simp; try with_reducible rfl)
                  try simp only [lAq,lBq,lCq,Act.put,lDq,lEq,lFq]
                  refine tk 11 ?_ rfl (by kernel_rfl) (fun _ _ _ h => h) ⟨by rfl, ?_⟩ hHeld ?_; rotate_left
                  · (intro wS hSw; (try dsimp only at hSw); (try go_split_ands); go_simp; try with_reducible rfl)
                  try simp only [lAq,lBq,lCq,Act.put,lDq,lEq,lFq]
                  refine tk 12 ?_ rfl (by kernel_rfl) (fun _ _ _ h => h) ⟨by rfl, ?_⟩ hHeld ?_; rotate_left
                  · (intro wS hSw; (try dsimp only at hSw); (try go_split_ands); go_simp; try with_reducible rfl)
                  try simp only [lAq,lBq,lCq,Act.put,lDq,lEq,lFq]
                  refine tk 13 ?_ rfl (by kernel_rfl) (fun _ _ _ h => h) ⟨by rfl, ?_⟩ hHeld ?_; rotate_left
                  · (intro wS hSw; (try dsimp only at hSw); (try go_split_ands); go_simp; try with_reducible rfl)
                  try simp only [lAq,lBq,lCq,Act.put,lDq,lEq,lFq]
                  refine tk 14 ?_ rfl (by kernel_rfl) (fun _ _ _ h => h) ⟨by rfl, ?_⟩ hHeld ?_; rotate_left
                  · (intro wS hSw; (try dsimp only at hSw); (try go_split_ands); go_simp; try with_reducible rfl)
                  try simp only [lAq,lBq,lCq,Act.put,lDq,lEq,lFq]
                  refine tk 15 ?_ rfl (by kernel_rfl) (fun _ _ _ h => h) ⟨by rfl, ?_⟩ hHeld ?_; rotate_left
                  · (intro wS hSw; (try dsimp only at hSw); (try go_split_ands); go_simp; try with_reducible rfl)
                  try simp only [lAq,lBq,lCq,Act.put,lDq,lEq,lFq]
                  refine tk 16 ?_ rfl (by kernel_rfl) (fun _ _ _ h => h) ⟨by rfl, ?_⟩ hHeld ?_; rotate_left
                  · (intro wS hSw; (try dsimp only at hSw); (try go_split_ands); go_simp; try with_reducible rfl)
                  try simp only [lAq,lBq,lCq,Act.put,lDq,lEq,lFq]
                  refine tk 17 ?_ rfl (by kernel_rfl) (fun _ _ _ h => h) ⟨by rfl, ?_⟩ hHeld ?_; rotate_left
                  · (intro wS hSw; (try dsimp only at hSw); (try go_split_ands); go_simp; try with_reducible rfl)
                  try simp only [lAq,lBq,lCq,Act.put,lDq,lEq,lFq]
                  refine tk 18 ?_ rfl (by kernel_rfl) (fun _ _ _ h => h) ⟨by rfl, ?_⟩ hHeld ?_; rotate_left
                  · (intro wS hSw; (try dsimp only at hSw); (try go_split_ands); go_simp; try with_reducible rfl)
                  try simp only [lAq,lBq,lCq,Act.put,lDq,lEq,lFq]
                  refine tk 19 ?_ rfl (by kernel_rfl) (fun _ _ _ h => h) ⟨by rfl, ?_⟩ hHeld ?_; rotate_left
                  · (intro wS hSw; (try dsimp only at hSw); (try go_split_ands); go_simp; try with_reducible rfl)
                  try simp only [lAq,lBq,lCq,Act.put,lDq,lEq,lFq]
                  refine tk 20 ?_ rfl (by kernel_rfl) (fun _ _ _ h => h) ⟨by rfl, ?_⟩ hHeld ?_; rotate_left
                  · (intro wS hSw; (try dsimp only at hSw); (try go_split_ands); go_simp; try with_reducible rfl)
                  try simp only [lAq,lBq,lCq,Act.put,lDq,lEq,lFq]
                  refine tk 21 ?_ rfl (by kernel_rfl) (fun _ _ _ h => h) ⟨by rfl, ?_⟩ hHeld ?_; rotate_left
                  · (intro wS hSw; (try dsimp only at hSw); (try go_split_ands); go_simp; try with_reducible rfl)
                  try simp only [lAq,lBq,lCq,Act.put,lDq,lEq,lFq]
                  refine tk 22 ?_ rfl (by kernel_rfl) (fun _ _ _ h => h) ⟨by rfl, ?_⟩ hHeld ?_; rotate_left
                  · (intro wS hSw; (try dsimp only at hSw); (try go_split_ands); go_simp; try with_reducible rfl)
                  try simp only [lAq,lBq,lCq,Act.put,lDq,lEq,lFq]
                  refine tk 23 ?_ rfl (by kernel_rfl) (fun _ _ _ h => h) ⟨by rfl, ?_⟩ hHeld ?_; rotate_left
                  · (intro wS hSw; (try dsimp only at hSw); (try go_split_ands); go_simp; try with_reducible rfl)
                  try simp only [lAq,lBq,lCq,Act.put,lDq,lEq,lFq]
                  refine tk 24 ?_ rfl (by kernel_rfl) (fun _ _ _ h => h) ⟨by rfl, ?_⟩ hHeld ?_; rotate_left
                  · (intro wS hSw; (try dsimp only at hSw); (try go_split_ands); go_simp; try with_reducible rfl)
                  try simp only [lAq,lBq,lCq,Act.put,lDq,lEq,lFq]
                  refine tk 25 ?_ rfl (by kernel_rfl) (fun _ _ _ h => h) ⟨by rfl, ?_⟩ hHeld ?_; rotate_left
                  · (intro wS hSw; (try dsimp only at hSw); (try go_split_ands); go_simp; try with_reducible rfl)
                  try simp only [lAq,lBq,lCq,Act.put,lDq,lEq,lFq]
                  refine tk 26 ?_ rfl (by kernel_rfl) (fun _ _ _ h => h) ⟨by rfl, ?_⟩ hHeld ?_; rotate_left
                  · (intro wS hSw; (try dsimp only at hSw); (try go_split_ands); go_simp; try with_reducible rfl)
                  try simp only [lAq,lBq,lCq,Act.put,lDq,lEq,lFq]
                  refine tk 27 ?_ rfl (by kernel_rfl) (fun _ _ _ h => h) ⟨by rfl, ?_⟩ hHeld ?_; rotate_left
                  · (intro wS hSw; (try dsimp only at hSw); (try go_split_ands); go_simp; try with_reducible rfl)
                  try simp only [lAq,lBq,lCq,Act.put,lDq,lEq,lFq]
                  refine tk 28 ?_ rfl (by kernel_rfl) (fun _ _ _ h => h) ⟨by rfl, ?_⟩ hHeld ?_; rotate_left
                  · (intro wS hSw; (try dsimp only at hSw); (try go_split_ands); go_simp; try with_reducible rfl)
                  try simp only [lAq,lBq,lCq,Act.put,lDq,lEq,lFq]
                  refine tk 29 ?_ rfl (by kernel_rfl) (fun _ _ _ h => h) ⟨by rfl, ?_⟩ hHeld ?_; rotate_left
                  · (intro wS hSw; (try dsimp only at hSw); (try go_split_ands); go_simp; try with_reducible rfl)
                  try simp only [lAq,lBq,lCq,Act.put,lDq,lEq,lFq]
                  refine tk 30 ?_ rfl (by kernel_rfl) (fun _ _ _ h => h) ⟨by rfl, ?_⟩ hHeld ?_; rotate_left
                  · (intro wS hSw; (try dsimp only at hSw); (try go_split_ands); go_simp; try with_reducible rfl)
                  try simp only [lAq,lBq,lCq,Act.put,lDq,lEq,lFq]
                  refine tk 31 ?_ rfl (by kernel_rfl) (fun _ _ _ h => h) ⟨by rfl, ?_⟩ hHeld ?_; rotate_left
                  · (intro wS hSw; (try dsimp only at hSw); (try go_split_ands); go_simp; try with_reducible rfl)
                  try simp only [lAq,lBq,lCq,Act.put,lDq,lEq,lFq]
                  refine tk 32 ?_ rfl (by kernel_rfl) (fun _ _ _ h => h) ⟨by rfl, ?_⟩ hHeld ?_; rotate_left
                  · (intro wS hSw; (try dsimp only at hSw); (try go_split_ands); go_simp; try with_reducible rfl)
                  try simp only [lAq,lBq,lCq,Act.put,lDq,lEq,lFq]
                  refine wpAnyH_ready (rs := [33]) (by kernel_rfl) (by simp) ?_
                  refine AllReadyH.cons rfl (fun K hK => ?_) AllReadyH.nil
                  go_simp
                  refine hK.out _ _ ?_ (fun hNext => ?_)
                  · exact ⟨setO C12.out (.inl NE12.out), setO CL.out (.inl NEL.out), setO CH.out (.inl NEH.out)⟩
                  clear hK K hHeld
                  have hHeld := hNext
                  clear hNext
                  try simp only [lAq,lBq,lCq,Act.put,lDq,lEq,lFq]
                  refine wpAnyH_done (by kernel_rfl) ?_ _
                  go_wp2_with (fail)
                  go_roundg (p.length - (m + 1))
                  case measure => omega
                  case rel => exact ⟨m + 1, true, rfl, by omega, by go_num, NXT.out true ⟨fun h => (by cases h), fun h => absurd (h.2.2 xh rfl) (by omega)⟩, (by first | exact FA.out true | exact FB.out true)⟩
                · skip
                  have CL := Lib.hid (HL1.out gl xl rfl).1
                  have NEL := Lib.hid (show pb ≠ gl from fun e => (HL1.out gl xl rfl).2.1 (.inl e.symm))
                  have cl := CL.out
                  have CH := Lib.hid (HL2.out gh xh rfl).1
                  have NEH := Lib.hid (show pb ≠ gh from fun e => (HL2.out gh xh rfl).2.1 (.inl e.symm))
                  have ch := CH.out
                  have hxt : decide (xh ≤ x0) = false := decide_eq_false hx
                  refine wp_region_held_drew (S := (fun V => V.cell? ⟨q12, 0, none⟩ = some (.int .i64 x0) ∧ V.cell? ⟨gl, 0, none⟩ = some (.int .i64 xl) ∧ V.cell? ⟨gh, 0, none⟩ = some (.int .i64 xh))) (by kernel_rfl) (⟨C12.out, CL.out, CH.out⟩) (fun hHeld => ?_)
                  refine tk 0 ?_ rfl (by kernel_rfl) (fun _ _ _ h => h) ⟨by rfl, ?_⟩ hHeld ?_; rotate_left
                  · (intro wS hSw; (try dsimp only at hSw); (try go_split_ands); go_simp; try with_reducible rfl)
                  try simp only [lAq,lBq,lCq,Act.put,lDq,lEq,lFq]
                  refine tk 1 ?_ rfl (by kernel_rfl) (fun _ _ _ h => h) ⟨by rfl, ?_⟩ hHeld ?_; rotate_left
                  · (intro wS hSw; (try dsimp only at hSw); (try go_split_ands); go_simp; try with_reducible rfl)
                  try simp only [lAq,lBq,lCq,Act.put,lDq,lEq,lFq]
                  refine tk 2 ?_ rfl (by kernel_rfl) (fun _ _ _ h => h) ⟨by rfl, ?_⟩ hHeld ?_; rotate_left
                  · (intro wS hSw; (try dsimp only at hSw); (try go_split_ands); go_simp; try with_reducible rfl)
                  try simp only [lAq,lBq,lCq,Act.put,lDq,lEq,lFq]
                  refine tk 3 ?_ rfl (by kernel_rfl) (fun _ _ _ h => h) ⟨by rfl, ?_⟩ hHeld ?_; rotate_left
                  · (intro wS hSw; (try dsimp only at hSw); (try go_split_ands); go_simp; try with_reducible rfl)
                  try simp only [lAq,lBq,lCq,Act.put,lDq,lEq,lFq]
                  refine wpAnyH_ready (rs := [4]) (by kernel_rfl) (by simp) ?_
                  refine AllReadyH.cons rfl (fun K hK => ?_) AllReadyH.nil
                  go_simp
                  refine hK.out _ _ ?_ (fun hNext => ?_)
                  · exact ⟨C12.out, CL.out, CH.out⟩
                  clear hK K hHeld
                  have hHeld := hNext
                  clear hNext
                  try simp only [lAq,lBq,lCq,Act.put,lDq,lEq,lFq]
                  refine tk 5 ?_ rfl (by kernel_rfl) (fun _ _ _ h => h) ⟨by rfl, ?_⟩ hHeld ?_; rotate_left
                  · (intro wS hSw; (try dsimp only at hSw); (try go_split_ands); go_simp; try with_reducible rfl)
                  try simp only [lAq,lBq,lCq,Act.put,lDq,lEq,lFq]
                  refine tk 6 ?_ rfl (by kernel_rfl) (fun _ _ _ h => h) ⟨by rfl, ?_⟩ hHeld ?_; rotate_left
                  · (intro wS hSw; (try dsimp only at hSw); (try go_split_ands); go_simp; try with_reducible rfl)
                  try simp only [lAq,lBq,lCq,Act.put,lDq,lEq,lFq]
                  refine tk 7 ?_ rfl (by kernel_rfl) (fun _ _ _ h => h) ⟨by rfl, ?_⟩ hHeld ?_; rotate_left
                  · (intro wS hSw; (try dsimp only at hSw); (try go_split_ands); go_simp; try with_reducible rfl)
                  try simp only [lAq,lBq,lCq,Act.put,lDq,lEq,lFq]
                  refine tk 8 ?_ rfl (by kernel_rfl) (fun _ _ _ h => h) ⟨by rfl, ?_⟩ hHeld ?_; rotate_left
                  · (intro wS hSw; (try dsimp only at hSw); (try go_split_ands); go_simp; try with_reducible rfl)
                  try simp only [lAq,lBq,lCq,Act.put,lDq,lEq,lFq]
                  refine tk 9 ?_ rfl (by kernel_rfl) (fun _ _ _ h => h) ⟨by rfl, ?_⟩ hHeld ?_; rotate_left
                  · (intro wS hSw; (try dsimp only at hSw); (try go_split_ands); go_simp; try with_reducible rfl)
                  try simp only [lAq,lBq,lCq,Act.put,lDq,lEq,lFq]
                  refine tk 10 ?_ rfl (by kernel_rfl) (fun _ _ _ h => h) ⟨by rfl, ?_⟩ hHeld ?_; rotate_left
                  · (intro wS hSw; (try dsimp only at hSw); (try go_split_ands); go_simp; try with_reducible rfl)
                  try simp only [lAq,lBq,lCq,Act.put,lDq,lEq,lFq]
                  refine tk 11 ?_ rfl (by kernel_rfl) (fun _ _ _ h => h) ⟨by rfl, ?_⟩ hHeld ?_; rotate_left
                  · (intro wS hSw; (try dsimp only at hSw); (try go_split_ands); go_simp; try with_reducible rfl)
                  try simp only [lAq,lBq,lCq,Act.put,lDq,lEq,lFq]
                  refine tk 12 ?_ rfl (by kernel_rfl) (fun _ _ _ h => h) ⟨by rfl, ?_⟩ hHeld ?_; rotate_left
                  · (intro wS hSw; (try dsimp only at hSw); (try go_split_ands); go_simp; try with_reducible rfl)
                  try simp only [lAq,lBq,lCq,Act.put,lDq,lEq,lFq]
                  refine tk 13 ?_ rfl (by kernel_rfl) (fun _ _ _ h => h) ⟨by rfl, ?_⟩ hHeld ?_; rotate_left
                  · (intro wS hSw; (try dsimp only at hSw); (try go_split_ands); go_simp; try with_reducible rfl)
                  try simp only [lAq,lBq,lCq,Act.put,lDq,lEq,lFq]
                  refine tk 14 ?_ rfl (by kernel_rfl) (fun _ _ _ h => h) ⟨by rfl, ?_⟩ hHeld ?_; rotate_left
                  · (intro wS hSw; (try dsimp only at hSw); (try go_split_ands); go_simp; try with_reducible rfl)
                  try simp only [lAq,lBq,lCq,Act.put,lDq,lEq,lFq]
                  refine tk 15 ?_ rfl (by kernel_rfl) (fun _ _ _ h => h) ⟨by rfl, ?_⟩ hHeld ?_; rotate_left
                  · (intro wS hSw; (try dsimp only at hSw); (try go_split_ands); go_simp; try with_reducible rfl)
                  try simp only [lAq,lBq,lCq,Act.put,lDq,lEq,lFq]
                  refine tk 16 ?_ rfl (by kernel_rfl) (fun _ _ _ h => h) ⟨by rfl, ?_⟩ hHeld ?_; rotate_left
                  · (intro wS hSw; (try dsimp only at hSw); (try go_split_ands); go_simp; try with_reducible rfl)
                  try simp only [lAq,lBq,lCq,Act.put,lDq,lEq,lFq]
                  refine tk 17 ?_ rfl (by kernel_rfl) (fun _ _ _ h => h) ⟨by rfl, ?_⟩ hHeld ?_; rotate_left
                  · (intro wS hSw; (try dsimp only at hSw); (try go_split_ands); go_simp; try with_reducible rfl)
                  try simp only [lAq,lBq,lCq,Act.put,lDq,lEq,lFq]
                  refine tk 18 ?_ rfl (by kernel_rfl) (fun _ _ _ h => h) ⟨by rfl, ?_⟩ hHeld ?_; rotate_left
                  · (intro wS hSw; (try dsimp only at hSw); (try go_split_ands); go_simp; try with_reducible rfl)
                  try simp only [lAq,lBq,lCq,Act.put,lDq,lEq,lFq]
                  refine tk 19 ?_ rfl (by kernel_rfl) (fun _ _ _ h => h) ⟨by rfl, ?_⟩ hHeld ?_; rotate_left
                  · (intro wS hSw; (try dsimp only at hSw); (try go_split_ands); go_simp; try with_reducible rfl)
                  try simp only [lAq,lBq,lCq,Act.put,lDq,lEq,lFq]
                  refine tk 20 ?_ rfl (by kernel_rfl) (fun _ _ _ h => h) ⟨by rfl, ?_⟩ hHeld ?_; rotate_left
                  · (intro wS hSw; (try dsimp only at hSw); (try go_split_ands); go_simp; try with_reducible rfl)
                  try simp only [lAq,lBq,lCq,Act.put,lDq,lEq,lFq]
                  refine tk 21 ?_ rfl (by kernel_rfl) (fun _ _ _ h => h) ⟨by rfl, ?_⟩ hHeld ?_; rotate_left
                  · (intro wS hSw; (try dsimp only at hSw); (try go_split_ands); go_simp; try with_reducible rfl)
                  try simp only [lAq,lBq,lCq,Act.put,lDq,lEq,lFq]
                  refine tk 22 ?_ rfl (by kernel_rfl) (fun _ _ _ h => h) ⟨by rfl, ?_⟩ hHeld ?_; rotate_left
                  · (intro wS hSw; (try dsimp only at hSw); (try go_split_ands); go_simp; try with_reducible rfl)
                  try simp only [lAq,lBq,lCq,Act.put,lDq,lEq,lFq]
                  refine tk 23 ?_ rfl (by kernel_rfl) (fun _ _ _ h => h) ⟨by rfl, ?_⟩ hHeld ?_; rotate_left
                  · (intro wS hSw; (try dsimp only at hSw); (try go_split_ands); go_simp; try with_reducible rfl)
                  try simp only [lAq,lBq,lCq,Act.put,lDq,lEq,lFq]
                  refine tk 24 ?_ rfl (by kernel_rfl) (fun _ _ _ h => h) ⟨by rfl, ?_⟩ hHeld ?_; rotate_left
                  · (intro wS hSw; (try dsimp only at hSw); (try go_split_ands); go_simp; try with_reducible rfl)
                  try simp only [lAq,lBq,lCq,Act.put,lDq,lEq,lFq]
                  refine tk 25 ?_ rfl (by kernel_rfl) (fun _ _ _ h => h) ⟨by rfl, ?_⟩ hHeld ?_; rotate_left
                  · (intro wS hSw; (try dsimp only at hSw); (try go_split_ands); go_simp; try with_reducible rfl)
                  try simp only [lAq,lBq,lCq,Act.put,lDq,lEq,lFq]
                  refine tk 26 ?_ rfl (by kernel_rfl) (fun _ _ _ h => h) ⟨by rfl, ?_⟩ hHeld ?_; rotate_left
                  · (intro wS hSw; (try dsimp only at hSw); (try go_split_ands); go_simp; try with_reducible rfl)
                  try simp only [lAq,lBq,lCq,Act.put,lDq,lEq,lFq]
                  refine tk 27 ?_ rfl (by kernel_rfl) (fun _ _ _ h => h) ⟨by rfl, ?_⟩ hHeld ?_; rotate_left
                  · (intro wS hSw; (try dsimp only at hSw); (try go_split_ands); go_simp; try with_reducible rfl)
                  try simp only [lAq,lBq,lCq,Act.put,lDq,lEq,lFq]
                  refine tk 28 ?_ rfl (by kernel_rfl) (fun _ _ _ h => h) ⟨by rfl, ?_⟩ hHeld ?_; rotate_left
                  · (intro wS hSw; (try dsimp only at hSw); (try go_split_ands); go_simp; try with_reducible rfl)
                  try simp only [lAq,lBq,lCq,Act.put,lDq,lEq,lFq]
                  refine tk 29 ?_ rfl (by kernel_rfl) (fun _ _ _ h => h) ⟨by rfl, ?_⟩ hHeld ?_; rotate_left
                  · (intro wS hSw; (try dsimp only at hSw); (try go_split_ands); go_simp; try with_reducible rfl)
                  try simp only [lAq,lBq,lCq,Act.put,lDq,lEq,lFq]
                  refine tk 30 ?_ rfl (by kernel_rfl) (fun _ _ _ h => h) ⟨by rfl, ?_⟩ hHeld ?_; rotate_left
                  · (intro wS hSw; (try dsimp only at hSw); (try go_split_ands); go_simp; try with_reducible rfl)
                  try simp only [lAq,lBq,lCq,Act.put,lDq,lEq,lFq]
                  refine tk 31 ?_ rfl (by kernel_rfl) (fun _ _ _ h => h) ⟨by rfl, ?_⟩ hHeld ?_; rotate_left
                  · (intro wS hSw; (try dsimp only at hSw); (try go_split_ands); go_simp; try with_reducible rfl)
                  try simp only [lAq,lBq,lCq,Act.put,lDq,lEq,lFq]
                  refine tk 32 ?_ rfl (by kernel_rfl) (fun _ _ _ h => h) ⟨by rfl, ?_⟩ hHeld ?_; rotate_left
                  · (intro wS hSw; (try dsimp only at hSw); (try go_split_ands); go_simp; try with_reducible rfl)
                  try simp only [lAq,lBq,lCq,Act.put,lDq,lEq,lFq]
                  refine wpAnyH_ready (rs := [33]) (by kernel_rfl) (by simp) ?_
                  refine AllReadyH.cons rfl (fun K hK => ?_) AllReadyH.nil
                  go_simp
                  refine hK.out _ _ ?_ (fun hNext => ?_)
                  · exact ⟨setO C12.out (.inl NE12.out), setO CL.out (.inl NEL.out), setO CH.out (.inl NEH.out)⟩
                  clear hK K hHeld
                  have hHeld := hNext
                  clear hNext
                  try simp only [lAq,lBq,lCq,Act.put,lDq,lEq,lFq]
                  refine wpAnyH_done (by kernel_rfl) ?_ _
                  go_wp2_with (fail)
                  go_roundg (p.length - (m + 1))
                  case measure => omega
                  case rel => exact ⟨m + 1, false, rfl, by omega, by go_num, NXT.out false ⟨fun _ => ⟨by trivial, fun x e => (by cases e; omega), fun y e => (by cases e; omega)⟩, fun _ => rfl⟩, (by first | exact FA.out false | exact FB.out false)⟩
        · generalize hvl : bdv lo = vl
          generalize hvh : bdv hi = vh
          refine wp_region_held_drew (S := (fun V => V.cell? ⟨q12, 0, none⟩ = some (.int .i64 x0) ∧ True)) (by kernel_rfl) (⟨C12.out, trivial⟩) (fun hHeld => ?_)
          refine tk 0 ?_ rfl (by kernel_rfl) (fun _ _ _ h => h) ⟨by rfl, ?_⟩ hHeld ?_; rotate_left
          · (intro wS hSw; (try dsimp only at hSw); (try go_split_ands); go_simp; try with_reducible rfl)
          try simp only [lAq,lBq,lCq,Act.put,lDq,lEq,lFq]
          refine tk 1 ?_ rfl (by kernel_rfl) (fun _ _ _ h => h) ⟨by rfl, ?_⟩ hHeld ?_; rotate_left
          · (intro wS hSw; (try dsimp only at hSw); (try go_split_ands); go_simp; try with_reducible rfl)
          try simp only [lAq,lBq,lCq,Act.put,lDq,lEq,lFq]
          refine tk 2 ?_ rfl (by kernel_rfl) (fun _ _ _ h => h) ⟨by rfl, ?_⟩ hHeld ?_; rotate_left
          · (intro wS hSw; (try dsimp only at hSw); (try go_split_ands); go_simp; try with_reducible rfl)
          try simp only [lAq,lBq,lCq,Act.put,lDq,lEq,lFq]
          refine tk 3 ?_ rfl (by kernel_rfl) (fun _ _ _ h => h) ⟨by rfl, ?_⟩ hHeld ?_; rotate_left
          · (intro wS hSw; (try dsimp only at hSw); (try go_split_ands); go_simp; try with_reducible rfl)
          try simp only [lAq,lBq,lCq,Act.put,lDq,lEq,lFq]
          refine wpAnyH_ready (rs := [4]) (by kernel_rfl) (by simp) ?_
          refine AllReadyH.cons rfl (fun K hK => ?_) AllReadyH.nil
          go_simp
          refine hK.out _ _ ?_ (fun hNext => ?_)
          · exact ⟨C12.out, trivial⟩
          clear hK K hHeld
          have hHeld := hNext
          clear hNext
          try simp only [lAq,lBq,lCq,Act.put,lDq,lEq,lFq]
          refine tk 5 ?_ rfl (by kernel_rfl) (fun _ _ _ h => h) ⟨by rfl, ?_⟩ hHeld ?_; rotate_left
          · (intro wS hSw; (try dsimp only at hSw); (try go_split_ands); go_simp; try with_reducible rfl)
          try simp only [lAq,lBq,lCq,Act.put,lDq,lEq,lFq]
          refine wpAnyH_take (i := 6) (v := undef) rfl (by kernel_rfl) (by kernel_rfl) (by kernel_rfl) (fun _ _ _ h => h) (Or.inr ⟨by rfl, rfl⟩) hHeld ?_
          try simp only [lAq,lBq,lCq,Act.put,lDq,lEq,lFq]
          refine wpAnyH_take (i := 7) (v := undef) rfl (by kernel_rfl) (by kernel_rfl) (by kernel_rfl) (fun _ _ _ h => h) (Or.inr ⟨by rfl, rfl⟩) hHeld ?_
          try simp only [lAq,lBq,lCq,Act.put,lDq,lEq,lFq]
          refine wpAnyH_take (i := 8) (v := undef) rfl (by kernel_rfl) (by kernel_rfl) (by kernel_rfl) (fun _ _ _ h => h) (Or.inr ⟨by rfl, rfl⟩) hHeld ?_
          try simp only [lAq,lBq,lCq,Act.put,lDq,lEq,lFq]
          refine wpAnyH_take (i := 9) (v := undef) rfl (by kernel_rfl) (by kernel_rfl) (by kernel_rfl) (fun _ _ _ h => h) (Or.inr ⟨by rfl, rfl⟩) hHeld ?_
          try simp only [lAq,lBq,lCq,Act.put,lDq,lEq,lFq]
          refine wpAnyH_take (i := 10) (v := undef) rfl (by kernel_rfl) (by kernel_rfl) (by kernel_rfl) (fun _ _ _ h => h) (Or.inr ⟨by rfl, rfl⟩) hHeld ?_
          try simp only [lAq,lBq,lCq,Act.put,lDq,lEq,lFq]
          refine wpAnyH_take (i := 11) (v := undef) rfl (by kernel_rfl) (by kernel_rfl) (by kernel_rfl) (fun _ _ _ h => h) (Or.inr ⟨by rfl, rfl⟩) hHeld ?_
          try simp only [lAq,lBq,lCq,Act.put,lDq,lEq,lFq]
          refine wpAnyH_take (i := 12) (v := undef) rfl (by kernel_rfl) (by kernel_rfl) (by kernel_rfl) (fun _ _ _ h => h) (Or.inr ⟨by rfl, rfl⟩) hHeld ?_
          try simp only [lAq,lBq,lCq,Act.put,lDq,lEq,lFq]
          refine wpAnyH_take (i := 13) (v := undef) rfl (by kernel_rfl) (by kernel_rfl) (by kernel_rfl) (fun _ _ _ h => h) (Or.inr ⟨by rfl, rfl⟩) hHeld ?_
          try simp only [lAq,lBq,lCq,Act.put,lDq,lEq,lFq]
          refine wpAnyH_take (i := 14) (v := undef) rfl (by kernel_rfl) (by kernel_rfl) (by kernel_rfl) (fun _ _ _ h => h) (Or.inr ⟨by rfl, rfl⟩) hHeld ?_
          try simp only [lAq,lBq,lCq,Act.put,lDq,lEq,lFq]
          refine wpAnyH_take (i := 15) (v := undef) rfl (by kernel_rfl) (by kernel_rfl) (by kernel_rfl) (fun _ _ _ h => h) (Or.inr ⟨by rfl, rfl⟩) hHeld ?_
          try simp only [lAq,lBq,lCq,Act.put,lDq,lEq,lFq]
          refine wpAnyH_take (i := 16) (v := undef) rfl (by kernel_rfl) (by kernel_rfl) (by kernel_rfl) (fun _ _ _ h => h) (Or.inr ⟨by rfl, rfl⟩) hHeld ?_
          try simp only [lAq,lBq,lCq,Act.put,lDq,lEq,lFq]
          refine tk 17 ?_ rfl (by kernel_rfl) (fun _ _ _ h => h) ⟨by rfl, ?_⟩ hHeld ?_; rotate_left
          · (intro wS hSw; (try dsimp only at hSw); (try go_split_ands); go_simp; try with_reducible rfl)
          try simp only [lAq,lBq,lCq,Act.put,lDq,lEq,lFq]
          refine tk 18 ?_ rfl (by kernel_rfl) (fun _ _ _ h => h) ⟨by rfl, ?_⟩ hHeld ?_; rotate_left
          · (intro wS hSw; (try dsimp only at hSw); (try go_split_ands); go_simp; try with_reducible rfl)
          try simp only [lAq,lBq,lCq,Act.put,lDq,lEq,lFq]
          refine wpAnyH_take (i := 19) (v := undef) rfl (by kernel_rfl) (by kernel_rfl) (by kernel_rfl) (fun _ _ _ h => h) (Or.inr ⟨by rfl, rfl⟩) hHeld ?_
          try simp only [lAq,lBq,lCq,Act.put,lDq,lEq,lFq]
          refine wpAnyH_take (i := 20) (v := undef) rfl (by kernel_rfl) (by kernel_rfl) (by kernel_rfl) (fun _ _ _ h => h) (Or.inr ⟨by rfl, rfl⟩) hHeld ?_
          try simp only [lAq,lBq,lCq,Act.put,lDq,lEq,lFq]
          refine wpAnyH_take (i := 21) (v := undef) rfl (by kernel_rfl) (by kernel_rfl) (by kernel_rfl) (fun _ _ _ h => h) (Or.inr ⟨by rfl, rfl⟩) hHeld ?_
          try simp only [lAq,lBq,lCq,Act.put,lDq,lEq,lFq]
          refine wpAnyH_take (i := 22) (v := undef) rfl (by kernel_rfl) (by kernel_rfl) (by kernel_rfl) (fun _ _ _ h => h) (Or.inr ⟨by rfl, rfl⟩) hHeld ?_
          try simp only [lAq,lBq,lCq,Act.put,lDq,lEq,lFq]
          refine wpAnyH_take (i := 23) (v := undef) rfl (by kernel_rfl) (by kernel_rfl) (by kernel_rfl) (fun _ _ _ h => h) (Or.inr ⟨by rfl, rfl⟩) hHeld ?_
          try simp only [lAq,lBq,lCq,Act.put,lDq,lEq,lFq]
          refine wpAnyH_take (i := 24) (v := undef) rfl (by kernel_rfl) (by kernel_rfl) (by kernel_rfl) (fun _ _ _ h => h) (Or.inr ⟨by rfl, rfl⟩) hHeld ?_
          try simp only [lAq,lBq,lCq,Act.put,lDq,lEq,lFq]
          refine wpAnyH_take (i := 25) (v := undef) rfl (by kernel_rfl) (by kernel_rfl) (by kernel_rfl) (fun _ _ _ h => h) (Or.inr ⟨by rfl, rfl⟩) hHeld ?_
          try simp only [lAq,lBq,lCq,Act.put,lDq,lEq,lFq]
          refine wpAnyH_take (i := 26) (v := undef) rfl (by kernel_rfl) (by kernel_rfl) (by kernel_rfl) (fun _ _ _ h => h) (Or.inr ⟨by rfl, rfl⟩) hHeld ?_
          try simp only [lAq,lBq,lCq,Act.put,lDq,lEq,lFq]
          refine wpAnyH_take (i := 27) (v := undef) rfl (by kernel_rfl) (by kernel_rfl) (by kernel_rfl) (fun _ _ _ h => h) (Or.inr ⟨by rfl, rfl⟩) hHeld ?_
          try simp only [lAq,lBq,lCq,Act.put,lDq,lEq,lFq]
          refine wpAnyH_take (i := 28) (v := undef) rfl (by kernel_rfl) (by kernel_rfl) (by kernel_rfl) (fun _ _ _ h => h) (Or.inr ⟨by rfl, rfl⟩) hHeld ?_
          try simp only [lAq,lBq,lCq,Act.put,lDq,lEq,lFq]
          refine wpAnyH_take (i := 29) (v := undef) rfl (by kernel_rfl) (by kernel_rfl) (by kernel_rfl) (fun _ _ _ h => h) (Or.inr ⟨by rfl, rfl⟩) hHeld ?_
          try simp only [lAq,lBq,lCq,Act.put,lDq,lEq,lFq]
          refine tk 30 ?_ rfl (by kernel_rfl) (fun _ _ _ h => h) ⟨by rfl, ?_⟩ hHeld ?_; rotate_left
          · (intro wS hSw; (try dsimp only at hSw); (try go_split_ands); go_simp; try with_reducible rfl)
          try simp only [lAq,lBq,lCq,Act.put,lDq,lEq,lFq]
          refine tk 31 ?_ rfl (by kernel_rfl) (fun _ _ _ h => h) ⟨by rfl, ?_⟩ hHeld ?_; rotate_left
          · (intro wS hSw; (try dsimp only at hSw); (try go_split_ands); go_simp; try with_reducible rfl)
          try simp only [lAq,lBq,lCq,Act.put,lDq,lEq,lFq]
          refine tk 32 ?_ rfl (by kernel_rfl) (fun _ _ _ h => h) ⟨by rfl, ?_⟩ hHeld ?_; rotate_left
          · (intro wS hSw; (try dsimp only at hSw); (try go_split_ands); go_simp; try with_reducible rfl)
          try simp only [lAq,lBq,lCq,Act.put,lDq,lEq,lFq]
          refine wpAnyH_ready (rs := [33]) (by kernel_rfl) (by simp) ?_
          refine AllReadyH.cons rfl (fun K hK => ?_) AllReadyH.nil
          go_simp
          refine hK.out _ _ ?_ (fun hNext => ?_)
          · exact ⟨setO C12.out (.inl NE12.out), trivial⟩
          clear hK K hHeld
          have hHeld := hNext
          clear hNext
          try simp only [lAq,lBq,lCq,Act.put,lDq,lEq,lFq]
          refine wpAnyH_done (by kernel_rfl) ?_ _
          go_wp2_with (fail)
          subst hvl
          subst hvh
          go_roundg (p.length - (m + 1))
          case measure => omega
          case rel => exact ⟨m + 1, true, rfl, by omega, by go_num, NXT.out true ⟨fun h => (by cases h), fun h => h.1⟩, (by first | exact FA.out true | exact FB.out true)⟩
      · obtain rfl : m = p.length := by omega
        have x4 := SR.out.2.1.at_ 4 _ rfl
        have HSRC := Lib.hid (src_any (DP0.out.below SR.out.1.z))
        have HLL := Lib.hid (show ([] : List Pr).length + p.length ≤ 100000000000 by simp; omega)
        have HEE := Lib.hid (show ([] : List Pr).length + p.length = p.length by simp)
        have HBAD := Lib.hid (show bad = false ↔ okL ⟨false, k, l, b', p, s⟩ (bdo lo) (bdo hi) from by
          rw [HBD.out, HB8.out, List.take_of_length_le (Nat.le_refl _)]
          exact ⟨fun ⟨⟨h1, h2, h3, h4, h5, h6⟩, h7⟩ => ⟨h1, h2, h3, h4, h5, h6, h7⟩, fun ⟨h1, h2, h3, h4, h5, h6, h7⟩ => ⟨⟨h1, h2, h3, h4, h5, h6⟩, h7⟩⟩)
        go_upto_region 15 with (at_builtin; refine wpList_app rfl _ (.tmp 141) rfl (fun j => j < wr.heap.size) _ [] p rfl (PRow.nil _ _) (fun k hk => hk) _ rfl HSRC.out HLL.out _ HEE.out _ rfl ?_; intro ao7 cp7 w7 hm7 hc7 hR7 hO7; have H7 := Lib.hid (And.intro hR7 (only_lt (Below.refl _ _) hO7)); have x4b := (SR.out.2.1.keep H7.out.2).at_ 4 _ rfl; have f4b := (SR.out.2.1.keep H7.out.2).fr 4; clear hR7 hO7; unfold maxLen at hm7)
        have HW7 := Lib.hid (show wr.heap.size ≤ w7.heap.size ∧ qn < wr.heap.size ∧ pb < wr.heap.size ∧ gs < wr.heap.size ∧ w0.heap.size ≤ wr.heap.size from ⟨H7.out.2.size, SR.out.2.1.lt, SR.out.1.b.lt, SR.out.1.s.lt, SR.out.1.z.size⟩)
        have X8 := Lib.hid ((SR.out.2.1.keep H7.out.2).set 4 (.slice ao7 p.length cp7) (by simp))
        have OF8 := Lib.hid ((SR.out.2.2.2.2.trans (Only.ofBelow H7.out.2) (fun i hi _ => hi)).setCell (S := (fun k => k = pb ∨ qn ≤ k)) (p := ⟨qn, 4, none⟩) (.inl (.inr (Nat.le_refl _))) (.slice ao7 p.length cp7))
        have P8 := Lib.hid ((SR.out.1.keep H7.out.2).node R1.out HQ1.out OF8.out HX.out.1 HX.out.2.1 (by have := HX.out; have := SR.out.1.hp; omega))
        have D8 := Lib.hid (show Prs (w7.setCell ⟨qn, 4, none⟩ (.slice ao7 p.length cp7)) ao7 cp7 p from prs_only (H7.out.1.prs rfl) ((Only.refl _ w7).setCell (S := fun k => k = qn) (p := ⟨qn, 4, none⟩) (.inl rfl) _) (fun _ b o sp e hb => by
          have h1 : ¬ b < wr.heap.size := H7.out.1.av b (by rw [e]; rfl)
          have := HW7.out; omega))
        have SEP := Lib.hid (show ∀ b o sp, ao7 = some ⟨b, o, sp⟩ → b < w7.heap.size ∧ ¬ (b < w0.heap.size ∨ b = pb ∨ b = gs) ∧ (Value.slice ao M.length co).ownBlock ≠ some b from fun b o sp e => by
          have h1 : ¬ b < wr.heap.size := H7.out.1.av b (by rw [e]; rfl)
          have h2 := (H7.out.1.row.lt b (by rw [e]; rfl)).2
          have h3 := HW7.out
          refine ⟨h2, fun h => by omega, fun h => ?_⟩
          have := HX.out.2.2 b h
          omega)
        clear x4 x4b f4b
        have HW8 := Lib.hid (show w7.heap.size = (w7.setCell ⟨qn, 4, none⟩ (.slice ao7 p.length cp7)).heap.size from by simp [World.setCell])
        generalize (World.setCell w7 _ _ : World) = W8 at *
        have q2 := P8.out.b.at_ 2 _ rfl
        have q2b := (P8.out.b.past (.cells #[.bool false, .int .i64 k, .int .i64 l, .int .i64 b', .slice ao7 p.length cp7, .int .i64 s] 49)).at_ 2 _ rfl
        have y0 := X8.out.at_ 0 _ rfl
        have y1 := X8.out.at_ 1 _ rfl
        have y2 := X8.out.at_ 2 _ rfl
        have y3 := X8.out.at_ 3 _ rfl
        have y4 := X8.out.at_ 4 _ rfl
        have y5 := X8.out.at_ 5 _ rfl
        have NQ := Lib.hid (show ∀ k, (Value.slice ao M.length co).ownBlock = some k → ¬ (k < w0.heap.size ∨ k = pb ∨ k = gs) from P8.out.r.own)
        have QL := Lib.hid (show ∀ k, (k < w0.heap.size ∨ k = pb ∨ k = gs) → k < W8.heap.size from fun k hk => by
          rcases hk with h | h | h
          · exact Nat.lt_of_lt_of_le h P8.out.z.size
          · rw [h]; exact P8.out.b.lt
          · rw [h]; exact P8.out.s.lt)
        have PA := Lib.hid ((P8.out.keep (al1 (.cells #[.bool false, .int .i64 k, .int .i64 l, .int .i64 b', .slice ao7 p.length cp7, .int .i64 s] 49))).drew)
        have PB := Lib.hid ((P8.out.drew).keep (al1 (.cells #[.bool false, .int .i64 k, .int .i64 l, .int .i64 b', .slice ao7 p.length cp7, .int .i64 s] 49)))
        have DA := Lib.hid ((D8.out.below (al1 (.cells #[.bool false, .int .i64 k, .int .i64 l, .int .i64 b', .slice ao7 p.length cp7, .int .i64 s] 49))).below ((Below.refl _ _).drew))
        have DB := Lib.hid ((D8.out.below ((Below.refl _ _).drew)).below (al1 (.cells #[.bool false, .int .i64 k, .int .i64 l, .int .i64 b', .slice ao7 p.length cp7, .int .i64 s] 49)))
        have BA := Lib.hid ((Bk.new W8 #[.bool false, .int .i64 k, .int .i64 l, .int .i64 b', .slice ao7 p.length cp7, .int .i64 s] 49).drew)
        have BB := Lib.hid (Bk.new W8.drew #[.bool false, .int .i64 k, .int .i64 l, .int .i64 b', .slice ao7 p.length cp7, .int .i64 s] 49)
        have OA := Lib.hid (((OF8.out.mono (T := (fun k => k = pb ∨ qn ≤ k ∨ (Value.slice ao M.length co).ownBlock = some k)) (fun i hi _ => hi.imp id .inl)).alloc (.cells #[.bool false, .int .i64 k, .int .i64 l, .int .i64 b', .slice ao7 p.length cp7, .int .i64 s] 49)).drew)
        have OB := Lib.hid (((OF8.out.mono (T := (fun k => k = pb ∨ qn ≤ k ∨ (Value.slice ao M.length co).ownBlock = some k)) (fun i hi _ => hi.imp id .inl)).drew).alloc (.cells #[.bool false, .int .i64 k, .int .i64 l, .int .i64 b', .slice ao7 p.length cp7, .int .i64 s] 49))
        have HNP := Lib.hid (show ¬ ((Value.slice ao M.length co).ownBlock = some pb) from fun e => NQ.out pb e (.inr (.inl rfl)))
        go_region_law (refine step_push rfl (.tmp 148) (.tmp 150) rfl (fun k => k < w0.heap.size ∨ k = pb ∨ k = gs) _ M rfl (by first | exact PA.out.r | exact PB.out.r) (fun k hk => Nat.lt_of_lt_of_le (QL.out k hk) (by first | (show W8.heap.size ≤ (W8.alloc (.cells #[.bool false, .int .i64 k, .int .i64 l, .int .i64 b', .slice ao7 p.length cp7, .int .i64 s] 49)).heap.size; simp) | simp)) ⟨⟨false, k, l, b', p, s⟩, ao7, cp7⟩ (by first | exact DA.out | exact DB.out) (fun _ b o sp e => ⟨Nat.lt_of_lt_of_le (SEP.out b o sp e).1 (by rw [HW8.out]; first | (show W8.heap.size ≤ (W8.alloc (.cells #[.bool false, .int .i64 k, .int .i64 l, .int .i64 b', .slice ao7 p.length cp7, .int .i64 s] 49)).heap.size; simp) | simp), (SEP.out b o sp e).2⟩) W8.heap.size rfl (by first | exact BA.out | exact BB.out) (Nat.le_trans HM.out (by decide)) (M.length + 1) rfl ?_; intro ao4 c4 w4 hm4 hc4 hR4 hO4 hk4; (first | have P4 := Lib.hid (PA.out.row hR4 hO4) | have P4 := Lib.hid (PB.out.row hR4 hO4)); (first | have z := PA.out.b.only hO4 HNP.out | have z := PB.out.b.only hO4 HNP.out); have z2 := z.at_ 2 _ rfl; have zf := z.fr 2; (first | have O4 := Lib.hid (OA.out.trans hO4 (fun i hi _ => .inr (.inr hi))) | have O4 := Lib.hid (OB.out.trans hO4 (fun i hi _ => .inr (.inr hi)))); have K4 := Lib.hid (show ∀ k, (Value.slice ao4 (M.length + 1) c4).ownBlock = some k → (Value.slice ao M.length co).ownBlock = some k ∨ W8.heap.size ≤ k from fun k hk => (hk4 k hk).imp id (fun h => Nat.le_trans (by first | (show W8.heap.size ≤ (W8.alloc (.cells #[.bool false, .int .i64 k, .int .i64 l, .int .i64 b', .slice ao7 p.length cp7, .int .i64 s] 49)).heap.size; simp) | simp) h)); clear hR4 hO4 hk4 z; unfold maxLen at hm4)
        all_goals
          go_wp2_with (fail)
          go_ret
        all_goals
          obtain ⟨hn0, hs0, -⟩ := HK.out
          exact ⟨(M.length : Int), _, _, _, bad, rfl, P4.out, OW.out.trans (O4.out.setCell (S := (fun k => k = pb ∨ qn ≤ k ∨ (Value.slice ao M.length co).ownBlock = some k)) (p := ⟨pb, 2, none⟩) (.inl (.inl rfl)) _) (fun i hi hl => by
              rcases hi with hi | hi | hi
              · exact .inl hi
              · exact absurd hl (by have := HWW.out; have := HQ1.out; omega)
              · exact .inr (.inr hi)), fun k hk => (K4.out k hk).imp id (fun h => by have := HWW.out; have := HQ1.out; have := HW7.out; have := HW8.out; omega), po_leaf rfl hn0 rfl hs0 bad HBAD.out _ rfl⟩
end
end Go.Proofs.Ytijepfabkalcoaa
namespace Go.Proofs.Ytijepfabkalcoaa
open Go.RowKit
open List renaming getElem_toArray → lAq, getElem_cons_succ → lBq, getElem_cons_zero → lCq, setIfInBounds_toArray → lDq, set_cons_zero → lEq, set_cons_succ → lFq
set_option linter.all false
theorem node_any {w0 : World} {pb gs : Nat} {T : Int} {a : Option Addr} {cap : Nat} {N : List Nd} {sc : Nat} (hN : Ns w0 a cap N) (hsm : Small N) : ∀ f, PnOk w0 pb gs T a cap N sc f := by
  intro f
  induction f with
  | zero => intro W vo M sn bad t lo hi hf; exact absurd hf (Nat.not_lt_zero _)
  | succ f IH =>
    intro W vo M sn bad t lo hi hf hML hP hlo hhi
    have hl := hsm.1
    cases bad
    case true => exact (node_bad hP hl).mono (fun e w' h => pn_of_bad hP h (fun h => (by cases h)))
    by_cases h1 : 0 ≤ t ∧ t < (N.length : Int)
    case neg =>
      rcases Int.lt_or_le t 0 with h0 | h0
      · exact (node_neg hP hl h0).mono (fun e w' h => pn_of_bad hP h (fun _ => part_out h1))
      · exact (node_over hP hl (by omega)).mono (fun e w' h => pn_of_bad hP h (fun _ => part_out h1))
    obtain ⟨i, rfl⟩ : ∃ i : Nat, t = i := ⟨t.toNat, by omega⟩
    have hil : i < N.length := by omega
    obtain ⟨n, hn⟩ : ∃ n, N[i]? = some n := ⟨_, List.getElem?_eq_getElem hil⟩
    obtain ⟨v, hv⟩ : ∃ v, sn[i]? = some v := ⟨_, List.getElem?_eq_getElem (by rw [hP.sl]; exact hil)⟩
    cases v
    case true => exact (node_seen hP hl hil hv rfl).mono (fun e w' h => pn_of_bad hP h (fun _ => part_seen rfl hv))
    cases hr : n.r with
    | false => exact node_lf hN hsm hn hr hv rfl hP hlo hhi hML
    | true =>
      by_cases hk : okR n (bdo lo) (bdo hi)
      · exact node_rt_yes hN hsm hn hr hv rfl hP hlo hhi hk hf hML IH
      · exact node_rt_no hN hsm hn hr hv rfl hP hlo hhi hk
attribute [local go_sem] mkB_run
set_option maxRecDepth 100000 in
set_option maxHeartbeats 12800000 in
theorem rplain_no (t : Int) (a : Option Addr) (cap : Nat) (N : List Nd) (w : World) (hN : Ns w a cap N) (hsm : Small N) (h : ∀ s, ¬ Tr N s t) :
    Calls Try.prog 15 #[trv t a cap N] w fun e w' => e = .returned (.tuple #[.agg #[.int .i64 0, .slice none 0 0], .bool false]) ∧ Below w.heap.size w w' := by
  have HT := Lib.hid h
  clear h
  have hl1 := hsm.1
  have hc1 := hN.1
  have hc2 := hN.2.1
  unfold maxLen at hc2
  have b2 : Below w.heap.size w ((w.alloc (.cells #[.int .i64 t, .slice a N.length cap] 24)).alloc (.cells #[.int .i64 0, .slice none 0 0] 24)) := bel1 (al1 _) _
  have P0 := Lib.hid (show Pn w (((((w.alloc (.cells #[.int .i64 t, .slice a N.length cap] 24)).alloc (.cells #[.int .i64 0, .slice none 0 0] 24)).alloc (.cells (mkB N.length) 4)).alloc (.cells #[.int .i64 t, .slice a N.length cap, .slice none 0 0, .slice (some ⟨w.heap.size + 1 + 1, 0, none⟩) N.length N.length, .bool false] 88)).drew) (w.heap.size + 1 + 1 + 1) (w.heap.size + 1 + 1) t a cap N N.length (.slice none 0 0) [] (List.replicate N.length false) false from by
    have hb := (Bk.new (((w.alloc (.cells #[.int .i64 t, .slice a N.length cap] 24)).alloc (.cells #[.int .i64 0, .slice none 0 0] 24)).alloc (.cells (mkB N.length) 4)) #[.int .i64 t, .slice a N.length cap, .slice none 0 0, .slice (some ⟨w.heap.size + 1 + 1, 0, none⟩) N.length N.length, .bool false] 88).drew
    have hs := (mkB_bs ((w.alloc (.cells #[.int .i64 t, .slice a N.length cap] 24)).alloc (.cells #[.int .i64 0, .slice none 0 0] 24)) N.length).keep (al1 (.cells #[.int .i64 t, .slice a N.length cap, .slice none 0 0, .slice (some ⟨w.heap.size + 1 + 1, 0, none⟩) N.length N.length, .bool false] 88))
    simp only [World.size_alloc] at hb hs
    refine ⟨hb, ⟨hs.lt, hs.at_, hs.fr⟩, List.length_replicate .., NRow.nil _ _, (bel1 (bel1 b2 _) _).drew, by omega, by omega, by omega⟩)
  have G1 := Lib.hid (show Bk (((((w.alloc (.cells #[.int .i64 t, .slice a N.length cap] 24)).alloc (.cells #[.int .i64 0, .slice none 0 0] 24)).alloc (.cells (mkB N.length) 4)).alloc (.cells #[.int .i64 t, .slice a N.length cap, .slice none 0 0, .slice (some ⟨w.heap.size + 1 + 1, 0, none⟩) N.length N.length, .bool false] 88)).drew) w.heap.size [.int .i64 t, .slice a N.length cap] from (((((Bk.new w #[.int .i64 t, .slice a N.length cap] 24).past (.cells #[.int .i64 0, .slice none 0 0] 24)).past (.cells (mkB N.length) 4)).past (.cells #[.int .i64 t, .slice a N.length cap, .slice none 0 0, .slice (some ⟨w.heap.size + 1 + 1, 0, none⟩) N.length N.length, .bool false] 88))).drew)
  have G2 := Lib.hid (show Bk (((((w.alloc (.cells #[.int .i64 t, .slice a N.length cap] 24)).alloc (.cells #[.int .i64 0, .slice none 0 0] 24)).alloc (.cells (mkB N.length) 4)).alloc (.cells #[.int .i64 t, .slice a N.length cap, .slice none 0 0, .slice (some ⟨w.heap.size + 1 + 1, 0, none⟩) N.length N.length, .bool false] 88)).drew) (w.heap.size + 1) [.int .i64 0, .slice none 0 0] from by
    have h := (((Bk.new (w.alloc (.cells #[.int .i64 t, .slice a N.length cap] 24)) #[.int .i64 0, .slice none 0 0] 24).past (.cells (mkB N.length) 4)).past (.cells #[.int .i64 t, .slice a N.length cap, .slice none 0 0, .slice (some ⟨w.heap.size + 1 + 1, 0, none⟩) N.length N.length, .bool false] 88)).drew
    simp only [World.size_alloc] at h; exact h)
  have cn := node_any (pb := w.heap.size + 1 + 1 + 1) (gs := w.heap.size + 1 + 1) (T := t) (sc := N.length) hN hsm (cnt (List.replicate N.length false) + 1) (((((w.alloc (.cells #[.int .i64 t, .slice a N.length cap] 24)).alloc (.cells #[.int .i64 0, .slice none 0 0] 24)).alloc (.cells (mkB N.length) 4)).alloc (.cells #[.int .i64 t, .slice a N.length cap, .slice none 0 0, .slice (some ⟨w.heap.size + 1 + 1, 0, none⟩) N.length N.length, .bool false] 88)).drew) (.slice none 0 0) [] (List.replicate N.length false) false t none none (Nat.lt_succ_self _) (by simp [cnt]) P0.out (BdOk.none _ _ _) (BdOk.none _ _ _)
  simp only [bdv] at cn
  unfold trv
  have HN := Lib.hid hN
  clear hN b2
  go_enter Try.func15, Try.ntmps15
  go_wp2_with (fail)
  go_region
  go_upto_region 5 with (go_at_call 42; ((with_reducible refine cn.mono ?_); clear cn; rintro e w5 ⟨r, v5, M5, sn5, bad5, rfl, hP5, hO5, hK5, hPo5⟩; have P5 := Lib.hid hP5; have K1 := Lib.hid (G1.out.only hO5 (by intro hh; rcases hh with hh | hh | hh; omega; omega; simp [Value.ownBlock] at hh)); have K2 := Lib.hid (G2.out.only hO5 (by intro hh; rcases hh with hh | hh | hh; omega; omega; simp [Value.ownBlock] at hh)); have PO := Lib.hid (hPo5.2.2.2 rfl); clear hP5 hO5 hK5 hPo5))
  obtain ⟨a5, c5, rfl, hc5, hm5⟩ := P5.out.r.form
  unfold maxLen at hm5
  have p4 := P5.out.b.at_ 4 _ rfl
  have p2 := P5.out.b.at_ 2 _ rfl
  have k0 := K1.out.at_ 0 _ rfl
  have k1 := K1.out.at_ 1 _ rfl
  have r0 := K2.out.at_ 0 _ rfl
  have r1 := K2.out.at_ 1 _ rfl
  have f0 := K2.out.fr 0
  have f1 := K2.out.fr 1
  clear G1 G2 P0
  cases bad5
  · obtain ⟨s, hp, -, -, hM⟩ := PO.out.1 rfl
    have hne : ((M5.length : Int) != (N.length : Int)) = true := by
      have h1 := congrArg List.length hM
      simp [lay_len] at h1
      have h2 : s.pre.length ≠ N.length := fun e => HT.out s ((part_tr (by omega) hp).2 e)
      simp; omega
    have HM5 := Lib.hid (show M5.length ≤ 10000 from by
      have h1 := congrArg List.length hM
      simp [lay_len] at h1
      have h3 := sub_len (m := List.range N.length) hp.2.1 (fun i hi => List.mem_range.2 (hp.1.lt i hi))
      simp at h3
      omega)
    have hM5 := HM5.out
    clear hp hM PO
    go_quiet (fail)
    go_wp2_with (fail)
    refine bodyPost_ret (v := .tuple #[.agg #[.int .i64 0, .slice none 0 0], .bool false]) (by simp [results, Try.results15, go_sem, r0, r1]) rfl ⟨rfl, ?_⟩
    repeat' (first | refine Below.setCell ?_ (by dsimp only; omega) _ | refine Below.drew ?_ | exact below_drewN P5.out.z _ | exact P5.out.z)
  · clear PO
    go_quiet (fail)
    go_wp2_with (fail)
    refine bodyPost_ret (v := .tuple #[.agg #[.int .i64 0, .slice none 0 0], .bool false]) (by simp [results, Try.results15, go_sem, r0, r1]) rfl ⟨rfl, ?_⟩
    repeat' (first | refine Below.setCell ?_ (by dsimp only; omega) _ | refine Below.drew ?_ | exact below_drewN P5.out.z _ | exact P5.out.z)
set_option maxRecDepth 100000 in
set_option maxHeartbeats 12800000 in
theorem rplain_yes (t : Int) (a : Option Addr) (cap : Nat) (N : List Nd) (w : World) (hN : Ns w a cap N) (hsm : Small N) (s : Sh) (h : Tr N s t) :
    Calls Try.prog 15 #[trv t a cap N] w (PlIs w (lay N s 0)) := by
  have HT := Lib.hid h
  clear h
  have hl1 := hsm.1
  have hc1 := hN.1
  have hc2 := hN.2.1
  unfold maxLen at hc2
  have b2 : Below w.heap.size w ((w.alloc (.cells #[.int .i64 t, .slice a N.length cap] 24)).alloc (.cells #[.int .i64 0, .slice none 0 0] 24)) := bel1 (al1 _) _
  have P0 := Lib.hid (show Pn ((w.alloc (.cells #[.int .i64 t, .slice a N.length cap] 24)).alloc (.cells #[.int .i64 0, .slice none 0 0] 24)) (((((w.alloc (.cells #[.int .i64 t, .slice a N.length cap] 24)).alloc (.cells #[.int .i64 0, .slice none 0 0] 24)).alloc (.cells (mkB N.length) 4)).alloc (.cells #[.int .i64 t, .slice a N.length cap, .slice none 0 0, .slice (some ⟨w.heap.size + 1 + 1, 0, none⟩) N.length N.length, .bool false] 88)).drew) (w.heap.size + 1 + 1 + 1) (w.heap.size + 1 + 1) t a cap N N.length (.slice none 0 0) [] (List.replicate N.length false) false from by
    have hb := (Bk.new (((w.alloc (.cells #[.int .i64 t, .slice a N.length cap] 24)).alloc (.cells #[.int .i64 0, .slice none 0 0] 24)).alloc (.cells (mkB N.length) 4)) #[.int .i64 t, .slice a N.length cap, .slice none 0 0, .slice (some ⟨w.heap.size + 1 + 1, 0, none⟩) N.length N.length, .bool false] 88).drew
    have hs := (mkB_bs ((w.alloc (.cells #[.int .i64 t, .slice a N.length cap] 24)).alloc (.cells #[.int .i64 0, .slice none 0 0] 24)) N.length).keep (al1 (.cells #[.int .i64 t, .slice a N.length cap, .slice none 0 0, .slice (some ⟨w.heap.size + 1 + 1, 0, none⟩) N.length N.length, .bool false] 88))
    simp only [World.size_alloc] at hb hs
    refine ⟨hb, ⟨hs.lt, hs.at_, hs.fr⟩, List.length_replicate .., NRow.nil _ _, (bel1 (al1 _) _).drew, by simp only [World.size_alloc]; omega, by simp only [World.size_alloc]; omega, by omega⟩)
  have G1 := Lib.hid (show Bk (((((w.alloc (.cells #[.int .i64 t, .slice a N.length cap] 24)).alloc (.cells #[.int .i64 0, .slice none 0 0] 24)).alloc (.cells (mkB N.length) 4)).alloc (.cells #[.int .i64 t, .slice a N.length cap, .slice none 0 0, .slice (some ⟨w.heap.size + 1 + 1, 0, none⟩) N.length N.length, .bool false] 88)).drew) w.heap.size [.int .i64 t, .slice a N.length cap] from (((((Bk.new w #[.int .i64 t, .slice a N.length cap] 24).past (.cells #[.int .i64 0, .slice none 0 0] 24)).past (.cells (mkB N.length) 4)).past (.cells #[.int .i64 t, .slice a N.length cap, .slice none 0 0, .slice (some ⟨w.heap.size + 1 + 1, 0, none⟩) N.length N.length, .bool false] 88))).drew)
  have G2 := Lib.hid (show Bk (((((w.alloc (.cells #[.int .i64 t, .slice a N.length cap] 24)).alloc (.cells #[.int .i64 0, .slice none 0 0] 24)).alloc (.cells (mkB N.length) 4)).alloc (.cells #[.int .i64 t, .slice a N.length cap, .slice none 0 0, .slice (some ⟨w.heap.size + 1 + 1, 0, none⟩) N.length N.length, .bool false] 88)).drew) (w.heap.size + 1) [.int .i64 0, .slice none 0 0] from by
    have h := (((Bk.new (w.alloc (.cells #[.int .i64 t, .slice a N.length cap] 24)) #[.int .i64 0, .slice none 0 0] 24).past (.cells (mkB N.length) 4)).past (.cells #[.int .i64 t, .slice a N.length cap, .slice none 0 0, .slice (some ⟨w.heap.size + 1 + 1, 0, none⟩) N.length N.length, .bool false] 88)).drew
    simp only [World.size_alloc] at h; exact h)
  have cn := node_any (pb := w.heap.size + 1 + 1 + 1) (gs := w.heap.size + 1 + 1) (T := t) (sc := N.length) (hN.keep b2) hsm (cnt (List.replicate N.length false) + 1) (((((w.alloc (.cells #[.int .i64 t, .slice a N.length cap] 24)).alloc (.cells #[.int .i64 0, .slice none 0 0] 24)).alloc (.cells (mkB N.length) 4)).alloc (.cells #[.int .i64 t, .slice a N.length cap, .slice none 0 0, .slice (some ⟨w.heap.size + 1 + 1, 0, none⟩) N.length N.length, .bool false] 88)).drew) (.slice none 0 0) [] (List.replicate N.length false) false t none none (Nat.lt_succ_self _) (by simp [cnt]) P0.out (BdOk.none _ _ _) (BdOk.none _ _ _)
  simp only [bdv] at cn
  unfold trv
  have HN := Lib.hid hN
  have B2 := Lib.hid b2
  clear hN b2
  go_enter Try.func15, Try.ntmps15
  go_wp2_with (fail)
  go_region
  go_upto_region 5 with (go_at_call 42; ((with_reducible refine cn.mono ?_); clear cn; rintro e w5 ⟨r, v5, M5, sn5, bad5, rfl, hP5, hO5, hK5, hPo5⟩; have P5 := Lib.hid hP5; have K1 := Lib.hid (G1.out.only hO5 (by intro hh; rcases hh with hh | hh | hh; omega; omega; simp [Value.ownBlock] at hh)); have K2 := Lib.hid (G2.out.only hO5 (by intro hh; rcases hh with hh | hh | hh; omega; omega; simp [Value.ownBlock] at hh)); have PO := Lib.hid (hPo5.2.2.2 rfl); clear hP5 hO5 hK5 hPo5))
  obtain ⟨a5, c5, rfl, hc5, hm5⟩ := P5.out.r.form
  unfold maxLen at hm5
  have p4 := P5.out.b.at_ 4 _ rfl
  have p2 := P5.out.b.at_ 2 _ rfl
  have k0 := K1.out.at_ 0 _ rfl
  have k1 := K1.out.at_ 1 _ rfl
  have r0 := K2.out.at_ 0 _ rfl
  have r1 := K2.out.at_ 1 _ rfl
  have f0 := K2.out.fr 0
  have f1 := K2.out.fr 1
  clear G1 G2 P0
  cases bad5
  · obtain ⟨s', hp, -, -, hM⟩ := PO.out.1 rfl
    obtain rfl := HT.out.hg.uniq hp.1
    have hlen : M5.length = N.length := by
      have h1 := congrArg List.length hM
      simp [lay_len] at h1
      rw [h1, HT.out.all]
    have hne : ((M5.length : Int) != (N.length : Int)) = false := by simp [hlen]
    have HM := Lib.hid (And.intro hM hlen)
    have hM5 : M5.length ≤ 10000 := by omega
    clear hp hM PO hlen
    go_quiet (fail)
    go_wp2_with (fail)
    have hO : Only (fun k => k = w.heap.size + 1) w5 ((w5.setCell ⟨w.heap.size + 1, 0, none⟩ (.int .i64 0)).setCell ⟨w.heap.size + 1, 1, none⟩ (.slice a5 M5.length c5)) :=
      ((Only.refl _ w5).setCell (S := fun k => k = w.heap.size + 1) (p := ⟨w.heap.size + 1, 0, none⟩) (.inl rfl) _).setCell (S := fun k => k = w.heap.size + 1) (p := ⟨w.heap.size + 1, 1, none⟩) (.inl rfl) _
    have NS := Lib.hid (show Ns ((w5.setCell ⟨w.heap.size + 1, 0, none⟩ (.int .i64 0)).setCell ⟨w.heap.size + 1, 1, none⟩ (.slice a5 M5.length c5)) a5 c5 (lay N s 0) from by
      have h := (P5.out.r.only hO (fun k hk => .inl (by subst hk; simp only [World.size_alloc]; omega))).ns.2
      rw [HM.out.1] at h
      exact h)
    refine bodyPost_ret (v := .tuple #[.agg #[.int .i64 0, .slice a5 M5.length c5], .bool true]) (by simp [results, Try.results15, go_sem, r0, r1]) rfl ⟨a5, c5, ?_, ?_, ?_⟩
    · rw [lay_len, HT.out.all, HM.out.2]
    · exact NS.out.keep (below_drewN (Below.refl _ _) _)
    · repeat' (first | refine Below.setCell ?_ (by dsimp only; omega) _ | refine Below.drew ?_ | exact bel2 B2.out (below_drewN P5.out.z _) | exact bel2 B2.out P5.out.z)
  · exact absurd (tr_part HT.out) (PO.out.2 rfl s)
end Go.Proofs.Ytijepfabkalcoaa
