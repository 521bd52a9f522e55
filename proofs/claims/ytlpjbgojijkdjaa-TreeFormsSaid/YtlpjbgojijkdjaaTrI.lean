/- osierref1.leaves. No condition: lemmas. -/
import Derived.Test.YtlpjbgojijkdjaaTrH
namespace Go.Proofs.Ytlpjbgojijkdjaa
open Go.RowKit
set_option linter.all false

/-- The cells of a tree's box. -/
def T2 (W : World) (q : Nat) (t : Int) (a : Option Addr) (nl cap : Nat) : Prop := W.cell? ⟨q, 0, none⟩ = some (.int .i64 t) ∧ W.cell? ⟨q, 1, none⟩ = some (.slice a nl cap)
section
variable {W W' W0 : World} {q : Nat} {t : Int} {a : Option Addr} {nl cap : Nat}
theorem T2.new (W : World) : T2 (W.alloc (.cells #[.int .i64 t, .slice a nl cap] 24)) W.heap.size t a nl cap := by
  refine ⟨?_, ?_⟩ <;> simp
theorem T2.ws {v v' : Value} {L : List Int} (h : T2 W0 q t a nl cap) (hw : Ws W0 v W v' L) (hv : v.ownBlock ≠ some q) : T2 W q t a nl cap := ⟨hw.cell h.1 hv, hw.cell h.2 hv⟩
theorem T2.keep (h : T2 W q t a nl cap) (hb : Below W.heap.size W W') : T2 W' q t a nl cap := ⟨kc hb h.1, kc hb h.2⟩
theorem T2.drew (h : T2 W q t a nl cap) : T2 W.drew q t a nl cap := h
end
set_option maxRecDepth 100000 in
set_option maxHeartbeats 6400000 in
theorem leaves_any {a : Option Addr} {cap : Nat} {N : List Nd} {w0 : World} {T : Int} (hN : Ns w0 a cap N) (hsm : Small N) : ∀ (z : Sh) (t : Int) (lo hi : Option Int), Hangs N z t lo hi → ∀ (W : World) (bo : Option Addr) (bc : Nat) (L : List Int), L.length + z.lvs.length ≤ 2000 →
    Below w0.heap.size w0 W → Nums W (fun k => k < w0.heap.size) (.slice bo L.length bc) L →
    Calls Try.prog 46 #[trv T a cap N, .int .i64 t, .slice bo L.length bc] W (WkIs W (.slice bo L.length bc) (L ++ preI z.lvs)) := by
  intro z
  unfold trv
  induction z with
  | lf i =>
    intro t lo hi h W bo bc L hL hb hR
    obtain ⟨rfl, n, hn, hr, -⟩ := h
    have hil := (List.getElem?_eq_some_iff.1 hn).1
    have hl1 := hsm.1
    have hc1 := hN.1
    have hc2 := hN.2.1
    unfold maxLen at hc2
    simp only [Sh.lvs, List.length_cons, List.length_nil] at hL
    obtain ⟨b, o, pa, pc, rfl, hna⟩ := hN.2.2 i n hn
    obtain ⟨r, k, l, b', p, s⟩ := n
    dsimp only at hr
    subst hr
    have h0 : (0 : Int) ≤ (i : Int) := by omega
    have h1 : (i : Int) < (N.length : Int) := by omega
    have er : L ++ preI (Sh.lf i).lvs = L ++ [(i : Int)] := rfl
    rw [er]
    have H1 := Lib.hid ((Ws.start hR).keep (al1 (.cells #[.int .i64 T, .slice (some ⟨b, o, none⟩) N.length cap] 24)))
    have HL := Lib.hid (show L.length + 1 ≤ 1000000 by omega)
    have HE := Lib.hid (show L.length + [(i : Int)].length = (L ++ [(i : Int)]).length by simp)
    obtain ⟨e0, e1, e2, e3, e4, e5, dp⟩ := (hna.keep hb).keep (al1 (.cells #[.int .i64 T, .slice (some ⟨b, o, none⟩) N.length cap] 24))
    dsimp only at e0 e1 e2 e3 e4 e5
    clear dp hR hb hna hn hN hsm hL er
    go_enter Try.func46, Try.ntmps46
    go_upto_region 3 with (fail)
    have H2 := Lib.hid (H1.out.keep (al1 (.cells #[.bool false, .int .i64 k, .int .i64 l, .int .i64 b', .slice pa p.length pc, .int .i64 s] 51)))
    clear e0 e1 e2 e3 e4 e5 H1
    generalize (World.alloc (World.alloc W _) _ : World) = W2 at *
    go_wp2_with (at_builtin; refine wpList_nums rfl (.tmp 16) (.tmp 18) rfl (Tk (W2.alloc (.cells #[.int .i64 (i : Int)] 3)) (.slice bo L.length bc)) _ L [(i : Int)] rfl (Ws.start (H2.out.keep (al1 _)).n).n (fun k hk => hk.1) _ rfl (src_one _) HL.out _ HE.out _ rfl ?_; intro ao cap2 w3 hm2 hc2' hR2 hO2; have H3 := Lib.hid (H2.out.more _ hR2 hO2); clear hR2 hO2; unfold maxLen at hm2)
    go_ret
    exact ⟨ao, cap2, by simp, H3.out⟩
  | rt i zl zr ihl ihr =>
    intro t lo hi h W bo bc L hL hb hR
    obtain ⟨rfl, n, hn, hr, -, hl, hrr⟩ := h
    have hil := (List.getElem?_eq_some_iff.1 hn).1
    have hl1 := hsm.1
    have hc1 := hN.1
    have hc2 := hN.2.1
    unfold maxLen at hc2
    simp only [Sh.lvs, List.length_append] at hL
    obtain ⟨b, o, pa, pc, rfl, hna⟩ := hN.2.2 i n hn
    obtain ⟨r, k, l, b', p, s⟩ := n
    dsimp only at hr hl hrr
    subst hr
    have h0 : (0 : Int) ≤ (i : Int) := by omega
    have h1 : (i : Int) < (N.length : Int) := by omega
    have HV := Lib.hid (nlow hR)
    have HB := Lib.hid hb
    have cl := fun (W : World) (bo : Option Addr) (bc : Nat) => ihl l lo (some k) hl W bo bc L (by omega)
    have cr := fun (W : World) (bo : Option Addr) (bc : Nat) => ihr b' (some k) hi hrr W bo bc (L ++ preI zl.lvs) (by simp [preI]; omega)
    have er : L ++ preI (Sh.rt i zl zr).lvs = L ++ preI zl.lvs ++ preI zr.lvs := by simp [Sh.lvs, preI]
    rw [er]
    have H1 := Lib.hid ((Ws.start hR).keep (al1 (.cells #[.int .i64 T, .slice (some ⟨b, o, none⟩) N.length cap] 24)))
    obtain ⟨e0, e1, e2, e3, e4, e5, dp⟩ := (hna.keep hb).keep (al1 (.cells #[.int .i64 T, .slice (some ⟨b, o, none⟩) N.length cap] 24))
    dsimp only at e0 e1 e2 e3 e4 e5
    have hq : Value.ownBlock (.slice bo L.length bc) ≠ some W.heap.size := fun e => absurd ((Ws.start hR).lt _ e) (Nat.lt_irrefl _)
    have hq1 : Value.ownBlock (.slice bo L.length bc) ≠ some (W.heap.size + 1) := fun e => absurd ((Ws.start hR).lt _ e) (by omega)
    have HQ := Lib.hid (And.intro hq hq1)
    clear dp hR hb hna hn hN hsm hL er ihl ihr hl hrr hq hq1
    generalize L ++ preI zl.lvs ++ preI zr.lvs = L3 at *
    generalize L ++ preI zl.lvs = L2 at *
    go_enter Try.func46, Try.ntmps46
    go_upto_region 2 with (fail)
    have H2 := Lib.hid (H1.out.keep (al1 (.cells #[.bool true, .int .i64 k, .int .i64 l, .int .i64 b', .slice pa p.length pc, .int .i64 s] 51))).drew
    have K2 := Lib.hid (show N6 _ (W.heap.size + 1) true k l b' pa p.length pc s from by have h := N6.new (r := true) (k := k) (l := l) (b := b') (pa := pa) (pl := p.length) (pc := pc) (s := s) (W.alloc (.cells #[.int .i64 T, .slice (some ⟨b, o, none⟩) N.length cap] 24)); simp only [World.size_alloc] at h; exact h.drew)
    have B2 := Lib.hid (show T2 _ W.heap.size T (some ⟨b, o, none⟩) N.length cap from ((T2.new W).keep (al1 (.cells #[.bool true, .int .i64 k, .int .i64 l, .int .i64 b', .slice pa p.length pc, .int .i64 s] 51))).drew)
    have KB2 := Lib.hid (And.intro B2.out K2.out)
    go_wp2_with (fail)
    clear e0 e1 e2 e3 e4 e5 H1 h0 h1
    go_region_held3 (fun V => (V.cell? ⟨W.heap.size, 0, none⟩ = some (.int .i64 T) ∧ V.cell? ⟨W.heap.size, 1, none⟩ = some (.slice (some ⟨b, o, none⟩) N.length cap)) ∧ V.cell? ⟨W.heap.size + 1, 0, none⟩ = some (.bool true) ∧ V.cell? ⟨W.heap.size + 1, 1, none⟩ = some (.int .i64 k) ∧ V.cell? ⟨W.heap.size + 1, 2, none⟩ = some (.int .i64 l) ∧ V.cell? ⟨W.heap.size + 1, 3, none⟩ = some (.int .i64 b') ∧ V.cell? ⟨W.heap.size + 1, 4, none⟩ = some (.slice pa p.length pc) ∧ V.cell? ⟨W.heap.size + 1, 5, none⟩ = some (.int .i64 s))
      (first | exact KB5.out | exact KB4.out | exact KB2.out | go_keep)
      (first
        | (go_at_call 46; ((with_reducible refine (cl _ _ _ (H2.out.below HB.out (Nat.le_refl _) HV.out) (H2.out.nums HV.out HB.out.size)).mono ?_); clear cl; rintro e w4 ⟨ao4, cap4, rfl, h4⟩; have H4 := Lib.hid h4; have KB4 := Lib.hid (And.intro (KB2.out.1.ws h4 HQ.out.1) (KB2.out.2.ws h4 HQ.out.2)); have O4 := Lib.hid (show Value.ownBlock (.slice ao4 L2.length cap4) ≠ some W.heap.size ∧ Value.ownBlock (.slice ao4 L2.length cap4) ≠ some (W.heap.size + 1) from ⟨fun e => (H4.out.own _ e).elim HQ.out.1 (fun h => absurd h (by simp <;> omega)), fun e => (H4.out.own _ e).elim HQ.out.2 (fun h => absurd h (by simp <;> omega))⟩); have G4 := Lib.hid (H2.out.step h4); clear h4 KB2))
        | (go_at_call 46; ((with_reducible refine (cr _ _ _ (G4.out.below HB.out (Nat.le_refl _) HV.out) (G4.out.nums HV.out HB.out.size)).mono ?_); clear cr; rintro e w5 ⟨ao5, cap5, rfl, h5⟩; have KB5 := Lib.hid (And.intro (KB4.out.1.ws h5 O4.out.1) (KB4.out.2.ws h5 O4.out.2)); have G5 := Lib.hid (G4.out.step h5); clear h5 KB4)))
    all_goals
      go_wp2_with (fail)
      go_ret
      exact ⟨_, _, rfl, G5.out⟩
#print axioms leaves_any
end Go.Proofs.Ytlpjbgojijkdjaa
