/- tree.walk, osierref1.leaves: places appended onto a row of one's own. No condition: lemmas. -/
import Derived.Test.YtlpjbgojijkdjaaTrG
import Derived.Test.YtlpjbgojijkdjaaNuG
import Derived.Test.YtlpjbgojijkdjaaTrL
namespace Go.Proofs.Ytlpjbgojijkdjaa
open Go.RowKit
set_option linter.all false

def preI (l : List Nat) : List Int := l.map (fun i : Nat => (i : Int))
theorem preI_app (l l' : List Nat) : preI (l ++ l') = preI l ++ preI l' := by simp [preI]
theorem preI_cons (i : Nat) (l : List Nat) : preI (i :: l) = (i : Int) :: preI l := rfl
theorem preI_len (l : List Nat) : (preI l).length = l.length := by simp [preI]
/-- The blocks that are there, but for the row's own. -/
def Tk (W : World) (v : Value) (k : Nat) : Prop := k < W.heap.size ∧ v.ownBlock ≠ some k
/-- The row that began as v0 in W0 is v in W. -/
structure Ws (W0 : World) (v0 : Value) (W : World) (v : Value) (L : List Int) : Prop where
  n : Nums W (Tk W0 v0) v L
  o : Only (fun k => ¬ Tk W0 v0 k) W0 W
def WkIs (W : World) (v : Value) (L : List Int) (e : Ending) (w' : World) : Prop := ∃ ao cap, e = .returned (.slice ao L.length cap) ∧ Ws W v w' (.slice ao L.length cap) L
section
variable {W0 W W' : World} {v0 v v' : Value} {L L' : List Int} {n : Nat}
theorem Ws.start {S : Nat → Prop} (h : Nums W S v L) : Ws W v W v L := ⟨⟨h.row, fun k hk hs => hs.2 hk⟩, Only.refl _ _⟩
theorem Ws.keep (h : Ws W0 v0 W v L) (hb : Below W.heap.size W W') : Ws W0 v0 W' v L := ⟨h.n.below hb, h.o.trans (Only.ofBelow hb) (fun i hi hl => absurd hl (by have := h.o.size; omega))⟩
theorem Ws.drew (h : Ws W0 v0 W v L) : Ws W0 v0 W.drew v L := h.keep ((Below.refl _ _).drew)
theorem Ws.own (h : Ws W0 v0 W v L) (k : Nat) (hk : v.ownBlock = some k) : v0.ownBlock = some k ∨ W0.heap.size ≤ k := by
  have := h.n.av k hk
  unfold Tk at this
  rcases Classical.em (v0.ownBlock = some k) with h' | h'
  · exact .inl h'
  · exact .inr (by
      rcases Nat.lt_or_ge k W0.heap.size with h2 | h2
      · exact absurd ⟨h2, h'⟩ this
      · exact h2)
theorem Ws.ext (h : Ws W0 v0 W v L) (k : Nat) (hk : Tk W0 v0 k) : Tk W v k := ⟨Nat.lt_of_lt_of_le hk.1 h.o.size, fun e => h.n.av k e hk⟩
theorem Ws.step (h : Ws W0 v0 W v L) (k : Ws W v W' v' L') : Ws W0 v0 W' v' L' :=
  ⟨k.n.sub (fun j _ hj => h.ext j hj), h.o.trans k.o (fun i hi _ hs => hi (h.ext i hs))⟩
/-- Blocks below n, none of which is the row's own, are as they were. -/
theorem Ws.below (h : Ws W0 v0 W v L) {w : World} {n : Nat} (hb : Below n w W0) (hn : n ≤ w.heap.size) (hv : ∀ k, v0.ownBlock = some k → n ≤ k) : Below n w W :=
  hb.trans (h.o.below (fun i hi => by
    rcases Nat.lt_or_ge i n with h' | h'
    · exact absurd ⟨Nat.lt_of_lt_of_le h' (Nat.le_trans hn hb.size), fun e => by have := hv i e; omega⟩ hi
    · exact h') (Nat.le_trans hn hb.size))
theorem Ws.cell (h : Ws W0 v0 W v L) {q : Addr} {u : Value} (hc : W0.cell? q = some u) (hv : v0.ownBlock ≠ some q.block) : W.cell? q = some u :=
  h.o.cell hc (fun hh => hh ⟨World.block_lt_of_cell? W0 _ hc, hv⟩)
theorem Ws.lt (h : Ws W0 v0 W v L) (k : Nat) (hk : v.ownBlock = some k) : k < W.heap.size := (h.n.row.lt k hk).2
theorem Ws.low (h : Ws W0 v0 W v L) (hv : ∀ k, v0.ownBlock = some k → n ≤ k) (hn : n ≤ W0.heap.size) : ∀ k, v.ownBlock = some k → n ≤ k := fun k hk => by
  rcases h.own k hk with h' | h'
  · exact hv k h'
  · omega
theorem Ws.nums (h : Ws W0 v0 W v L) (hv : ∀ k, v0.ownBlock = some k → n ≤ k) (hn : n ≤ W0.heap.size) : Nums W (fun k => k < n) v L :=
  ⟨h.n.row, fun k hk hs => by have := h.low hv hn k hk; omega⟩
/-- A number more: behind an append. -/
theorem Ws.more (h : Ws W0 v0 W v L) (o : Obj) {W' : World} (hN : Nums W' (Tk (W.alloc o) v) v' L') (hO : Only (fun k => ¬ Tk (W.alloc o) v k) (W.alloc o) W') : Ws W0 v0 W' v' L' :=
  (h.keep (al1 o)).step ⟨hN, hO⟩
end
theorem nlow {W : World} {n : Nat} {v : Value} {L : List Int} (h : Nums W (fun k => k < n) v L) : ∀ k, v.ownBlock = some k → n ≤ k := fun k hk => by
  have : ¬ k < n := h.av k hk
  omega
/-- The cells of a node's box. -/
def N6 (W : World) (q : Nat) (r : Bool) (k l b : Int) (pa : Option Addr) (pl pc : Nat) (s : Int) : Prop :=
  W.cell? ⟨q, 0, none⟩ = some (.bool r) ∧ W.cell? ⟨q, 1, none⟩ = some (.int .i64 k) ∧ W.cell? ⟨q, 2, none⟩ = some (.int .i64 l) ∧ W.cell? ⟨q, 3, none⟩ = some (.int .i64 b) ∧ W.cell? ⟨q, 4, none⟩ = some (.slice pa pl pc) ∧ W.cell? ⟨q, 5, none⟩ = some (.int .i64 s)
section
variable {W W' W0 : World} {q : Nat} {r : Bool} {k l b : Int} {pa : Option Addr} {pl pc : Nat} {s : Int}
theorem N6.new (W : World) : N6 (W.alloc (.cells #[.bool r, .int .i64 k, .int .i64 l, .int .i64 b, .slice pa pl pc, .int .i64 s] 51)) W.heap.size r k l b pa pl pc s := by
  refine ⟨?_, ?_, ?_, ?_, ?_, ?_⟩ <;> simp
theorem N6.ws {v v' : Value} {L : List Int} (h : N6 W0 q r k l b pa pl pc s) (hw : Ws W0 v W v' L) (hv : v.ownBlock ≠ some q) : N6 W q r k l b pa pl pc s := by
  obtain ⟨c0, c1, c2, c3, c4, c5⟩ := h
  exact ⟨hw.cell c0 hv, hw.cell c1 hv, hw.cell c2 hv, hw.cell c3 hv, hw.cell c4 hv, hw.cell c5 hv⟩
theorem N6.keep (h : N6 W q r k l b pa pl pc s) (hb : Below W.heap.size W W') : N6 W' q r k l b pa pl pc s := by
  obtain ⟨c0, c1, c2, c3, c4, c5⟩ := h
  exact ⟨kc hb c0, kc hb c1, kc hb c2, kc hb c3, kc hb c4, kc hb c5⟩
theorem N6.drew (h : N6 W q r k l b pa pl pc s) : N6 W.drew q r k l b pa pl pc s := h
end

set_option maxRecDepth 100000 in
set_option maxHeartbeats 6400000 in
theorem walk_any {a : Option Addr} {cap : Nat} {N : List Nd} {w0 : World} (hN : Ns w0 a cap N) (hsm : Small N) : ∀ (z : Sh) (t : Int) (lo hi : Option Int), Hangs N z t lo hi → ∀ (W : World) (bo : Option Addr) (bc : Nat) (L : List Int), L.length + z.pre.length ≤ 2000 →
    Below w0.heap.size w0 W → Nums W (fun k => k < w0.heap.size) (.slice bo L.length bc) L →
    Calls Try.prog 34 #[.slice a N.length cap, .int .i64 t, .slice bo L.length bc] W (WkIs W (.slice bo L.length bc) (L ++ preI z.pre)) := by
  intro z
  induction z with
  | lf i =>
    intro t lo hi h W bo bc L hL hb hR
    obtain ⟨rfl, n, hn, hr, -⟩ := h
    have hil := (List.getElem?_eq_some_iff.1 hn).1
    have hl1 := hsm.1
    have hc1 := hN.1
    have hc2 := hN.2.1
    unfold maxLen at hc2
    simp only [Sh.pre, List.length_cons, List.length_nil] at hL
    obtain ⟨b, o, pa, pc, rfl, hna⟩ := hN.2.2 i n hn
    obtain ⟨r, k, l, b', p, s⟩ := n
    dsimp only at hr
    subst hr
    have h0 : (0 : Int) ≤ (i : Int) := by omega
    have h1 : (i : Int) < (N.length : Int) := by omega
    have HS := Lib.hid (Ws.start hR)
    have HV := Lib.hid (nlow hR)
    have HB := Lib.hid hb
    have HA := Lib.hid hna
    have HL := Lib.hid (show L.length + 1 ≤ 1000000 by omega)
    have HE := Lib.hid (show L.length + [(i : Int)].length = (L ++ [(i : Int)]).length by simp)
    have er : L ++ preI (Sh.lf i).pre = L ++ [(i : Int)] := rfl
    rw [er]
    clear hR hb hna hn hN hsm hL er
    go_enter Try.func34, Try.ntmps34
    go_upto_region 2 with (at_builtin; refine wpList_nums rfl (.tmp 8) (.tmp 10) rfl (Tk (W.alloc (.cells #[.int .i64 (i : Int)] 3)) (.slice bo L.length bc)) _ L [(i : Int)] rfl (Ws.start (HS.out.keep (al1 _)).n).n (fun k hk => hk.1) _ rfl (src_one _) HL.out _ HE.out _ rfl ?_; intro ao cap2 w2 hm2 hc2' hR2 hO2; have H2 := Lib.hid (HS.out.more _ hR2 hO2); clear hR2 hO2; unfold maxLen at hm2)
    have E := Lib.hid (HA.out.keep (H2.out.below HB.out (Nat.le_refl _) HV.out))
    obtain ⟨e0, e1, e2, e3, e4, e5, dp⟩ := E.out
    dsimp only at e0 e1 e2 e3 e4 e5
    clear dp
    go_wp2_with (fail)
    go_ret
    refine ⟨ao, cap2, by simp, ?_⟩
    exact H2.out.keep (al1 (.cells #[.bool false, .int .i64 k, .int .i64 l, .int .i64 b', .slice pa p.length pc, .int .i64 s] 51))
  | rt i zl zr ihl ihr =>
    intro t lo hi h W bo bc L hL hb hR
    obtain ⟨rfl, n, hn, hr, -, hl, hrr⟩ := h
    have hil := (List.getElem?_eq_some_iff.1 hn).1
    have hl1 := hsm.1
    have hc1 := hN.1
    have hc2 := hN.2.1
    unfold maxLen at hc2
    simp only [Sh.pre, List.length_cons, List.length_append] at hL
    obtain ⟨b, o, pa, pc, rfl, hna⟩ := hN.2.2 i n hn
    obtain ⟨r, k, l, b', p, s⟩ := n
    dsimp only at hr hl hrr
    subst hr
    have h0 : (0 : Int) ≤ (i : Int) := by omega
    have h1 : (i : Int) < (N.length : Int) := by omega
    have HS := Lib.hid (Ws.start hR)
    have HV := Lib.hid (nlow hR)
    have HB := Lib.hid hb
    have HA := Lib.hid hna
    have HL := Lib.hid (show L.length + 1 ≤ 1000000 by omega)
    have cl := fun (W : World) (bo : Option Addr) (bc : Nat) => ihl l lo (some k) hl W bo bc (L ++ [(i : Int)]) (by simp; omega)
    have cr := fun (W : World) (bo : Option Addr) (bc : Nat) => ihr b' (some k) hi hrr W bo bc (L ++ [(i : Int)] ++ preI zl.pre) (by simp [preI]; omega)
    obtain ⟨n1, hn1⟩ : ∃ n1, (L ++ [(i : Int)]).length = n1 := ⟨_, rfl⟩
    have el : L.length + [(i : Int)].length = n1 := by rw [← hn1]; simp
    simp only [hn1] at cl
    have HN1 := Lib.hid hn1
    clear hn1
    have er : L ++ preI (Sh.rt i zl zr).pre = L ++ [(i : Int)] ++ preI zl.pre ++ preI zr.pre := by simp [Sh.pre, preI]
    rw [er]
    have HE := Lib.hid el
    clear hR hb hna hn hN hsm hL ihl ihr hl hrr el er
    generalize L ++ [(i : Int)] ++ preI zl.pre ++ preI zr.pre = L3 at *
    generalize L ++ [(i : Int)] ++ preI zl.pre = L2 at *
    go_enter Try.func34, Try.ntmps34
    go_upto_region 2 with (at_builtin; refine wpList_nums rfl (.tmp 8) (.tmp 10) rfl (Tk (W.alloc (.cells #[.int .i64 (i : Int)] 3)) (.slice bo L.length bc)) _ L [(i : Int)] rfl (Ws.start (HS.out.keep (al1 _)).n).n (fun k hk => hk.1) _ rfl (src_one _) HL.out _ HE.out _ rfl ?_; intro ao cap2 w2 hm2 hc2' hR2 hO2; have H2 := Lib.hid (HS.out.more _ hR2 hO2); clear hR2 hO2; unfold maxLen at hm2)
    have E := Lib.hid (HA.out.keep (H2.out.below HB.out (Nat.le_refl _) HV.out))
    obtain ⟨e0, e1, e2, e3, e4, e5, dp⟩ := E.out
    dsimp only at e0 e1 e2 e3 e4 e5
    clear dp
    generalize L ++ [(i : Int)] = L1 at *
    have K3 := Lib.hid (N6.new (r := true) (k := k) (l := l) (b := b') (pa := pa) (pl := p.length) (pc := pc) (s := s) w2).drew
    have H3 := Lib.hid (H2.out.keep (al1 (.cells #[.bool true, .int .i64 k, .int .i64 l, .int .i64 b', .slice pa p.length pc, .int .i64 s] 51))).drew
    have O3 := Lib.hid (show Value.ownBlock (.slice ao n1 cap2) ≠ some w2.heap.size from fun e => absurd (H2.out.lt _ e) (Nat.lt_irrefl _))
    go_wp2_with (fail)
    have hqb : ∃ qb, w2.heap.size = qb := ⟨_, rfl⟩
    obtain ⟨qb, hqb⟩ := hqb
    rw [hqb] at K3 O3 ⊢
    have HQ := Lib.hid hqb
    clear hqb e0 e1 e2 e3 e4 e5 h0 h1
    go_region_held3 (fun W => W.cell? ⟨qb, 0, none⟩ = some (.bool true) ∧ W.cell? ⟨qb, 1, none⟩ = some (.int .i64 k) ∧ W.cell? ⟨qb, 2, none⟩ = some (.int .i64 l) ∧ W.cell? ⟨qb, 3, none⟩ = some (.int .i64 b') ∧ W.cell? ⟨qb, 4, none⟩ = some (.slice pa p.length pc) ∧ W.cell? ⟨qb, 5, none⟩ = some (.int .i64 s))
      (first | exact K5.out | exact K4.out | exact K3.out | go_keep)
      (first
        | (go_at_call 34; ((with_reducible refine (cl _ _ _ (H3.out.below HB.out (Nat.le_refl _) HV.out) (by have h := H3.out.nums HV.out HB.out.size; first | exact h | (rw [HN1.out]; exact h))).mono ?_); clear cl; rintro e w4 ⟨ao4, cap4, rfl, h4⟩; have H4 := Lib.hid h4; have K4 := Lib.hid (K3.out.ws h4 O3.out); have O4 := Lib.hid (show Value.ownBlock (.slice ao4 L2.length cap4) ≠ some qb from fun e => (H4.out.own _ e).elim O3.out (fun h => absurd h (by have hq := HQ.out; simp at h; omega))); have G4 := Lib.hid (H3.out.step h4); clear h4 K3))
        | (go_at_call 34; ((with_reducible refine (cr _ _ _ (G4.out.below HB.out (Nat.le_refl _) HV.out) (G4.out.nums HV.out HB.out.size)).mono ?_); clear cr; rintro e w5 ⟨ao5, cap5, rfl, h5⟩; have K5 := Lib.hid (K4.out.ws h5 O4.out); have G5 := Lib.hid (G4.out.step h5); clear h5 K4)) | fail)
    all_goals
      go_wp2_with (fail)
      go_ret
      exact ⟨_, _, rfl, G5.out⟩
#print axioms walk_any
end Go.Proofs.Ytlpjbgojijkdjaa
