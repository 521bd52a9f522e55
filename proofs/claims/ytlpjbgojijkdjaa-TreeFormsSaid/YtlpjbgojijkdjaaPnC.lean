/- plan.node at a route: where the route may not be. No condition: lemmas. -/
import Derived.Test.YtlpjbgojijkdjaaPnB
namespace Go.Proofs.Ytlpjbgojijkdjaa
open Go.RowKit
set_option linter.all false

theorem BdOk.keep {W W' : World} {Q : Nat → Prop} {vo : Value} {o : Bd} (h : BdOk W Q vo o) (hb : Below W.heap.size W W') : BdOk W' Q vo o := fun g x e => ⟨kc hb (h g x e).1, (h g x e).2⟩
theorem BdOk.only {W W' : World} {Q S : Nat → Prop} {vo : Value} {o : Bd} (h : BdOk W Q vo o) (ho : Only S W W') (hS : ∀ k, S k → Q k) : BdOk W' Q vo o := fun g x e => ⟨ho.cell (h g x e).1 (fun hh => (h g x e).2.1 (hS g hh)), (h g x e).2⟩
theorem BdOk.none (W : World) (Q : Nat → Prop) (vo : Value) : BdOk W Q vo none := fun g x e => by cases e
attribute [local go_sem] undef
section
variable {w0 W : World} {pb gs : Nat} {T : Int} {a : Option Addr} {cap : Nat} {N : List Nd} {sc : Nat} {vo : Value} {M : List RN} {sn : List Bool} {lo hi : Bd} {t : Int}
set_option maxRecDepth 100000 in
set_option maxHeartbeats 6400000 in
theorem node_rt_no (hN : Ns w0 a cap N) (hsm : Small N) {i : Nat} {n : Nd} (hn : N[i]? = some n) (hr : n.r = true) (hs : sn[i]? = some false) (ht : t = (i : Int)) (hP : Pn w0 W pb gs T a cap N sc vo M sn false) (hlo : BdOk W (fun k => k = pb ∨ k = gs) vo lo) (hhi : BdOk W (fun k => k = pb ∨ k = gs) vo hi) (hk : ¬ okR n (bdo lo) (bdo hi)) :
    Calls Try.prog 36 #[.pointer (some ⟨pb, 0, none⟩), .int .i64 t, bdv lo, bdv hi] W (PnIs w0 pb gs T a cap N sc vo M sn false t (bdo lo) (bdo hi) W) := by
  have NO := Lib.hid (part_rt_no (sn := sn) ht hn hr hk)
  have hsl := hP.sl
  subst ht
  have hil := (List.getElem?_eq_some_iff.1 hn).1
  have hl1 := hsm.1
  have hc1 := hN.1
  have hc2 := hN.2.1
  have hpl := hsm.at hn
  unfold maxLen at hc2
  obtain ⟨ao, co, rfl, hco, hcm⟩ := hP.r.form
  unfold maxLen at hcm
  have P1 := Lib.hid (hP.mark i (by rw [hP.sl]; exact hil))
  have L1 := Lib.hid (hlo.only (only_gs (W := W) (gs := gs) (.bool true) i) (fun k hk => .inr hk))
  have L2 := Lib.hid (hhi.only (only_gs (W := W) (gs := gs) (.bool true) i) (fun k hk => .inr hk))
  obtain ⟨b, o, pa, pc, rfl, hna0⟩ := hN.2.2 i n hn
  have E := Lib.hid (hna0.keep P1.out.z)
  have c0 := hP.s.at_ i _ hs
  have fg := hP.s.fr i
  have p1 := hP.b.at_ 1 _ rfl
  have p3 := hP.b.at_ 3 _ rfl
  have p4 := hP.b.at_ 4 _ rfl
  have h0 : (0 : Int) ≤ (i : Int) := by omega
  have h1 : (i : Int) < (N.length : Int) := by omega
  have HG := Lib.hid (And.intro hP.b.lt (And.intro hP.s.lt (And.intro hP.ne (And.intro hP.hp hP.hs))))
  obtain ⟨r, k, l, b', p, s⟩ := n
  dsimp only at hr hpl E
  subst hr
  have HHN := Lib.hid hN
  have fin : ∀ nq : Nat, PnIs w0 pb gs T (some ⟨b, o, none⟩) cap N sc (.slice ao M.length co) M sn false (i : Int) (bdo lo) (bdo hi) W (.returned (.int .i64 0)) ((((W.setCell ⟨gs, i, none⟩ (.bool true)).alloc (.cells #[.bool true, .int .i64 k, .int .i64 l, .int .i64 b', .slice pa p.length pc, .int .i64 s] 51)).drewN nq).setCell ⟨pb, 4, none⟩ (.bool true)) := fun nq => by
    have hb : Below (W.setCell ⟨gs, i, none⟩ (.bool true)).heap.size (W.setCell ⟨gs, i, none⟩ (.bool true)) (((W.setCell ⟨gs, i, none⟩ (.bool true)).alloc (.cells #[.bool true, .int .i64 k, .int .i64 l, .int .i64 b', .slice pa p.length pc, .int .i64 s] 51)).drewN nq) := below_drewN (al1 _) nq
    refine ⟨0, _, M, sn.set i true, true, rfl, (P1.out.keep hb).setBad true, ?_, fun k hk => .inl hk, po_no NO.out (cnt_set_le _ _)⟩
    exact (((only_gs (W := W) (gs := gs) (.bool true) i).mono (fun i hi _ => .inr (.inl hi))).trans (Only.ofBelow hb) (fun i hi _ => hi)).setCell (S := fun k => k = pb ∨ k = gs ∨ (Value.slice ao M.length co).ownBlock = some k) (p := ⟨pb, 4, none⟩) (.inl (.inl rfl)) _
  have FIN0 := Lib.hid fin
  clear fin NO
  have hk2 : ¬ (p = [] ∧ s = 0 ∧ inS (bdo lo) (bdo hi) k ∧ bdo lo ≠ some k) := hk
  clear hk hn
  clear hP hna0 hs hlo hhi hN
  go_enter Try.func36, Try.ntmps36
  go_upto_region 5 with (fail)
  clear c0 fg p1 p3 p4
  generalize (World.setCell W _ _ : World) = W1 at *
  obtain ⟨e0, e1, e2, e3, e4, e5, dp⟩ := E.out
  dsimp only at e0 e1 e2 e3 e4 e5 dp
  have HDP := Lib.hid dp
  clear dp
  have P2 := Lib.hid (P1.out.keep (al1 (.cells #[.bool true, .int .i64 k, .int .i64 l, .int .i64 b', .slice pa p.length pc, .int .i64 s] 51)))
  have p1 := P1.out.b.at_ 1 _ rfl
  have q2 := P2.out.b.at_ 2 _ rfl
  have q4 := P2.out.b.at_ 4 _ rfl
  have f4 := P2.out.b.fr 4
  have FIN := FIN0.out
  clear FIN0 E
  by_cases hp0 : p = []
  case neg =>
    have hpp : ((p.length : Int) != 0) = true := by
      have := List.length_pos_iff.2 hp0
      simp; omega
    clear hp0 hk2
    go_wp2_with (fail)
    go_quiet (fail)
    go_wp2_with (fail)
    go_ret
    exact FIN _
  subst hp0
  try simp only [List.length_nil] at q2
  try simp only [List.length_nil] at q4
  try simp only [List.length_nil] at f4
  try simp only [List.length_nil] at P2
  try simp only [List.length_nil] at e4
  try simp only [List.length_nil] at FIN
  by_cases hs0 : s = 0
  case neg =>
    have hss : (s != 0) = true := by simpa using hs0
    clear hs0 hk2
    go_wp2_with (fail)
    go_quiet (fail)
    go_wp2_with (fail)
    go_ret
    exact FIN _
  subst hs0
  have hk3 : ¬ (inS (bdo lo) (bdo hi) k ∧ bdo lo ≠ some k) := fun h => hk2 ⟨rfl, rfl, h.1, h.2⟩
  clear hk2
  rcases lo with _ | ⟨gl, xl⟩
  · rcases hi with _ | ⟨gh, xh⟩
    · exact absurd ⟨inS_any k, fun h => by cases h⟩ hk3
    · have hx : xh ≤ k := by
        rcases Int.lt_or_le k xh with h | h
        · exact absurd ⟨⟨fun x hx => (by cases hx), fun y hy => (by cases hy; exact h)⟩, fun h => (by cases h)⟩ hk3
        · exact h
      have ch := kc (al1 (.cells #[.bool true, .int .i64 k, .int .i64 l, .int .i64 b', .slice pa 0 pc, .int .i64 0] 51)) (L2.out gh xh rfl).1
      clear hk3
      unfold bdv
      go_wp2_with (fail)
      go_quiet (fail)
      go_wp2_with (fail)
      go_ret
      exact FIN _
  · by_cases hx : k ≤ xl
    · have hxt : decide (k ≤ xl) = true := decide_eq_true hx
      have cl := kc (al1 (.cells #[.bool true, .int .i64 k, .int .i64 l, .int .i64 b', .slice pa 0 pc, .int .i64 0] 51)) (L1.out gl xl rfl).1
      clear hk3
      generalize bdv hi = vh
      unfold bdv
      go_wp2_with (fail)
      go_quiet (fail)
      go_wp2_with (fail)
      go_ret
      exact FIN _
    · have hxd : decide (k ≤ xl) = false := decide_eq_false hx
      have cl := kc (al1 (.cells #[.bool true, .int .i64 k, .int .i64 l, .int .i64 b', .slice pa 0 pc, .int .i64 0] 51)) (L1.out gl xl rfl).1
      rcases hi with _ | ⟨gh, xh⟩
      · refine absurd ⟨⟨fun x hx' => ?_, fun y hy => by cases hy⟩, fun h => ?_⟩ hk3
        · cases hx'; show xl ≤ k; omega
        · have : xl = k := by simpa [bdo] using h
          omega
      · have hx2 : xh ≤ k := by
          rcases Int.lt_or_le k xh with h | h
          · refine absurd ⟨⟨fun x hx' => ?_, fun y hy => ?_⟩, fun h' => ?_⟩ hk3
            · cases hx'; show xl ≤ k; omega
            · cases hy; exact h
            · have : xl = k := by simpa [bdo] using h'
              omega
          · exact h
        have ch := kc (al1 (.cells #[.bool true, .int .i64 k, .int .i64 l, .int .i64 b', .slice pa 0 pc, .int .i64 0] 51)) (L2.out gh xh rfl).1
        clear hk3 hx
        unfold bdv
        go_wp2_with (fail)
        go_quiet (fail)
        go_wp2_with (fail)
        go_ret
        exact FIN _
end
#print axioms node_rt_no
end Go.Proofs.Ytlpjbgojijkdjaa
