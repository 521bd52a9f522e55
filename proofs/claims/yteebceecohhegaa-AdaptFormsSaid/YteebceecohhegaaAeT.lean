/- osierref1.copyIn exactly: a subtree behind other nodes, but for one route. No condition: lemmas. -/
import Derived.Test.YteebceecohhegaaAeS
import Derived.Test.YteebceecohhegaaAeM
namespace Go.Proofs.Yteebceecohhegaa
open Go.RowKit
set_option linter.all false

/-- The shape that is copied when the call is made at t. -/
def Cp (N : List Nd) (x o : Int) : Sh → Int → Prop
  | .lf i, t => (t = x ∧ o = (i : Int) ∨ t ≠ x ∧ t = (i : Int)) ∧ i < N.length ∧ (nd N i).r = false
  | .rt i l r, t => (t = x ∧ o = (i : Int) ∨ t ≠ x ∧ t = (i : Int)) ∧ i < N.length ∧ (nd N i).r = true ∧ (nd N i).p = [] ∧ (nd N i).s = 0 ∧ Cp N x o l (nd N i).a ∧ Cp N x o r (nd N i).b
/-- What the call answers. -/
def CiIs (N : List Nd) (Q : Nat → Prop) (v : Value) (M : List RN) (n : Nat) (F : Sh) (W : World) (e : Ending) (w' : World) : Prop :=
  ∃ ao c M', e = .returned (.tuple #[.slice ao (n + F.pre.length) c, .int .i64 (n : Int)]) ∧ M'.map (fun m => m.n) = M.map (fun m => m.n) ++ lay N F n ∧ M'.length = n + F.pre.length ∧ NRow w' Q (.slice ao (n + F.pre.length) c) M' ∧ Only (fun k => v.ownBlock = some k) W w' ∧ ∀ k, (Value.slice ao (n + F.pre.length) c).ownBlock = some k → v.ownBlock = some k ∨ W.heap.size ≤ k
def CiOk (w0 : World) (t0 : Int) (a : Option Addr) (cap : Nat) (N : List Nd) (x o : Int) (F : Sh) : Prop :=
  ∀ (W : World) (Q : Nat → Prop) (ao : Option Addr) (n co : Nat) (M : List RN) (t : Int), M.length = n → Cp N x o F t → n + F.pre.length ≤ 2000 → Below w0.heap.size w0 W → NRow W Q (.slice ao n co) M → (∀ k, k < w0.heap.size → Q k) → (∀ k, Q k → k < W.heap.size) →
    Calls Try.prog 40 #[trv t0 a cap N, .int .i64 t, .int .i64 x, .int .i64 o, .slice ao n co] W (CiIs N Q (.slice ao n co) M n F W)
/-- Two cells of a node in a row of one's own. -/
theorem NRow.two {W : World} {Q : Nat → Prop} {g n c : Nat} {M : List RN} (h : NRow W Q (.slice (some ⟨g, 0, none⟩) n c) M) {i : Nat} {m : RN} (hm : M[i]? = some m) (x y : Int) :
    NRow ((W.setCell ⟨g, i * 6 + 2, none⟩ (.int .i64 x)).setCell ⟨g, i * 6 + 3, none⟩ (.int .i64 y)) Q (.slice (some ⟨g, 0, none⟩) n c) (M.set i ⟨⟨m.n.r, m.n.k, x, y, m.n.p, m.n.s⟩, m.a, m.c⟩) ∧
    Only (fun k => k = g) W ((W.setCell ⟨g, i * 6 + 2, none⟩ (.int .i64 x)).setCell ⟨g, i * 6 + 3, none⟩ (.int .i64 y)) := by
  have hi := (List.getElem?_eq_some_iff.1 hm).1
  obtain ⟨p1, p2⟩ := h.prs m (List.mem_of_getElem? hm)
  have sep : m.n.p ≠ [] → ∀ b o sp, m.a = some ⟨b, o, sp⟩ → ¬ Q b ∧ g ≠ b := fun hp b o sp e => ⟨(p2 hp b o sp e).1, fun e' => (p2 hp b o sp e).2 (by rw [← e']; rfl)⟩
  have r1 := h.cell hm ⟨⟨m.n.r, m.n.k, x, m.n.b, m.n.p, m.n.s⟩, m.a, m.c⟩ 2 (.int .i64 x) (by decide) rfl p1 sep
  have hO1 : Only (fun k => k = g) W (W.setCell ⟨g, i * 6 + 2, none⟩ (.int .i64 x)) := (Only.refl _ W).setCell (S := fun k => k = g) (p := ⟨g, i * 6 + 2, none⟩) (.inl rfl) _
  have p1' := prs_only p1 hO1 (fun hp b o sp e hb => (sep hp b o sp e).2 hb.symm)
  have r2 := r1.cell (List.getElem?_set_self hi) ⟨⟨m.n.r, m.n.k, x, y, m.n.p, m.n.s⟩, m.a, m.c⟩ 3 (.int .i64 y) (by decide) rfl p1' sep
  rw [List.set_set] at r2
  exact ⟨r2, hO1.setCell (S := fun k => k = g) (p := ⟨g, i * 6 + 3, none⟩) (.inl rfl) _⟩
theorem ci_lf_fin {N : List Nd} {Q Q' : Nat → Prop} {v : Value} {M : List RN} {n i : Nat} {W w4 : World} {a4 : Option Addr} {c4 : Nat} {m : RN} (hz : N[i]? = some m.n) (hML : M.length = n) (hQ : ∀ k, Q k → Q' k) (hR : NRow w4 Q' (.slice a4 (n + 1) c4) (M ++ [m]))
    (hU : Only (fun k => v.ownBlock = some k) W w4) (hK : ∀ k, (Value.slice a4 (n + 1) c4).ownBlock = some k → v.ownBlock = some k ∨ W.heap.size ≤ k) : CiIs N Q v M n (.lf i) W (.returned (.tuple #[.slice a4 (n + 1) c4, .int .i64 (n : Int)])) w4 :=
  ⟨a4, c4, M ++ [m], rfl, by simp [lay, nd_of hz], by simp [hML, Sh.pre], hR.sub (fun k _ hk => hQ k hk), hU, hK⟩
/-- The two sides, one behind the other, then the places. -/
theorem ci_rt_fin {N : List Nd} {Q Q' : Nat → Prop} {v : Value} {M M5 M6 : List RN} {n i ll rr : Nat} {l r : Sh} {W w4 w5 w6 : World} {a4 a5 : Option Addr} {g6 c4 c5 c6 : Nat} {m m6 : RN} {k la lb : Int} (hmn : m.n = ⟨true, k, la, lb, [], 0⟩) (hz : N[i]? = some ⟨true, k, la, lb, [], 0⟩) (hML : M.length = n) (hll : l.pre.length = ll) (hrr : r.pre.length = rr) (hQ : ∀ k, Q k → Q' k)
    (hU : Only (fun k => v.ownBlock = some k) W w4) (hK : ∀ k, (Value.slice a4 (n + 1) c4).ownBlock = some k → v.ownBlock = some k ∨ W.heap.size ≤ k)
    (hM5 : M5.map (fun m => m.n) = (M ++ [m]).map (fun m => m.n) ++ lay N l (n + 1)) (hO5 : Only (fun k => (Value.slice a4 (n + 1) c4).ownBlock = some k) w4 w5) (hK5 : ∀ k, (Value.slice a5 (n + 1 + ll) c5).ownBlock = some k → (Value.slice a4 (n + 1) c4).ownBlock = some k ∨ w4.heap.size ≤ k)
    (hM6 : M6.map (fun m => m.n) = M5.map (fun m => m.n) ++ lay N r (n + 1 + ll)) (hR6 : NRow w6 Q' (.slice (some ⟨g6, 0, none⟩) (n + 1 + ll + rr) c6) M6) (hO6 : Only (fun k => (Value.slice a5 (n + 1 + ll) c5).ownBlock = some k) w5 w6) (hK6 : ∀ k, (Value.slice (some ⟨g6, 0, none⟩) (n + 1 + ll + rr) c6).ownBlock = some k → (Value.slice a5 (n + 1 + ll) c5).ownBlock = some k ∨ w5.heap.size ≤ k) (hm6 : M6[n]? = some m6) {x y : Int} (hx : x = ((n + 1 : Nat) : Int)) (hy : y = ((n + 1 + ll : Nat) : Int)) :
    CiIs N Q v M n (.rt i l r) W (.returned (.tuple #[.slice (some ⟨g6, 0, none⟩) (n + 1 + ll + rr) c6, .int .i64 (n : Int)])) ((w6.setCell ⟨g6, n * 6 + 2, none⟩ (.int .i64 x)).setCell ⟨g6, n * 6 + 3, none⟩ (.int .i64 y)) := by
  subst hx hy
  have e6 : M6.map (fun m => m.n) = M.map (fun m => m.n) ++ (⟨true, k, la, lb, [], 0⟩ :: (lay N l (n + 1) ++ lay N r (n + 1 + ll))) := by
    rw [hM6, hM5]; simp [hmn]
  have hn : m6.n = ⟨true, k, la, lb, [], 0⟩ := by
    have h : (M6.map (fun m => m.n))[n]? = some m6.n := by rw [List.getElem?_map, hm6]; rfl
    rw [e6, List.getElem?_append_right (by simp [hML])] at h
    simp [hML] at h
    exact h.symm
  have hpl : (Sh.rt i l r).pre.length = 1 + ll + rr := by simp [Sh.pre, hll, hrr]; omega
  obtain ⟨h2, hO⟩ := hR6.two hm6 ((n + 1 : Nat) : Int) ((n + 1 + ll : Nat) : Int)
  have s4 := hU.size
  have s5 := hO5.size
  have s6 := hO6.size
  have U5 : Only (fun k => v.ownBlock = some k) W w5 := hU.trans hO5 (fun k hk hlt => (hK k hk).elim id (fun h => absurd hlt (by omega)))
  have k5 : ∀ k, (Value.slice a5 (n + 1 + ll) c5).ownBlock = some k → v.ownBlock = some k ∨ W.heap.size ≤ k := fun k hk => (hK5 k hk).elim (hK k) (fun h => .inr (by omega))
  have U6 : Only (fun k => v.ownBlock = some k) W w6 := U5.trans hO6 (fun k hk hlt => (k5 k hk).elim id (fun h => absurd hlt (by omega)))
  have k6 : ∀ k, (Value.slice (some ⟨g6, 0, none⟩) (n + 1 + ll + rr) c6).ownBlock = some k → v.ownBlock = some k ∨ W.heap.size ≤ k := fun k hk => (hK6 k hk).elim (k5 k) (fun h => .inr (by omega))
  have U7 := U6.trans hO (fun k hk hlt => (k6 k (by rw [show k = g6 from hk]; rfl)).elim id (fun h => absurd hlt (by omega)))
  have hl6 : M6.length = n + 1 + ll + rr := by
    have h := congrArg List.length e6
    simp [lay_len, hll, hrr, hML] at h; omega
  have en : n + (Sh.rt i l r).pre.length = n + 1 + ll + rr := by rw [hpl]; omega
  refine ⟨some ⟨g6, 0, none⟩, c6, M6.set n ⟨⟨m6.n.r, m6.n.k, ((n + 1 : Nat) : Int), ((n + 1 + ll : Nat) : Int), m6.n.p, m6.n.s⟩, m6.a, m6.c⟩, by rw [en], ?_, by rw [en, List.length_set, hl6], by rw [en]; exact h2.sub (fun k _ hk => hQ k hk), U7, by rw [en]; exact k6⟩
  rw [List.map_set, e6, List.set_append_right _ _ (by simp [hML])]
  simp [hML, lay, nd_of hz, hn, hll]
set_option maxRecDepth 100000 in
set_option maxHeartbeats 6400000 in
theorem ci_lf {w0 W : World} {t0 x o t : Int} {a : Option Addr} {cap : Nat} {N : List Nd} (hN : Ns w0 a cap N) (hsm : Small N) {i : Nat} {Q : Nat → Prop} {ao : Option Addr} {n co : Nat} {M : List RN} (hML : M.length = n) (hb : Below w0.heap.size w0 W) (hR : NRow W Q (.slice ao n co) M) (hQ0 : ∀ k, k < w0.heap.size → Q k) (hQ1 : ∀ k, Q k → k < W.heap.size) (hi : t = x ∧ o = (i : Int) ∨ t ≠ x ∧ t = (i : Int)) {k la lb st : Int} {p : List Pr} (hz : N[i]? = some ⟨false, k, la, lb, p, st⟩) (hnl : n + 1 ≤ 2000) :
    Calls Try.prog 40 #[trv t0 a cap N, .int .i64 t, .int .i64 x, .int .i64 o, .slice ao n co] W (CiIs N Q (.slice ao n co) M n (.lf i) W) := by
  have hl1 := hsm.1
  have hc1 := hN.1
  have hc2 := hN.2.1
  unfold maxLen at hc2
  have hil := (List.getElem?_eq_some_iff.1 hz).1
  obtain ⟨b, oo, pa, pc, rfl, hna⟩ := (hN.keep hb).2.2 i _ hz
  have HPL := Lib.hid (hsm.at hz)
  have hna1 := hna.keep (al1 (.cells #[.int .i64 t0, .slice (some ⟨b, oo, none⟩) N.length cap] 24))
  have T1 := Lib.hid (Bk.new W #[.int .i64 t0, .slice (some ⟨b, oo, none⟩) N.length cap] 24)
  have R1 := Lib.hid ((hR.sub (Q' := fun k => Q k ∨ k = W.heap.size ∨ k = W.heap.size + 1) (fun k hk hq => by
    rcases hq with h | h | h
    · exact h
    · omega
    · omega)).keep (al1 (.cells #[.int .i64 t0, .slice (some ⟨b, oo, none⟩) N.length cap] 24)))
  have HW1 := Lib.hid (show (W.alloc (.cells #[.int .i64 t0, .slice (some ⟨b, oo, none⟩) N.length cap] 24)).heap.size = W.heap.size + 1 from World.size_alloc ..)
  have O1 := Lib.hid ((Only.refl (fun k => (Value.slice ao n co).ownBlock = some k) W).alloc (.cells #[.int .i64 t0, .slice (some ⟨b, oo, none⟩) N.length cap] 24))
  have HOWN := Lib.hid (show ∀ k, (Value.slice ao n co).ownBlock = some k → k < W.heap.size from fun k hk => (hR.row.lt k hk).2)
  obtain ⟨ao', co', e', hco, hcm⟩ := hR.form
  rw [hML] at e' hco
  injection e' with e1 e2 e3
  subst e3
  clear e1 e2
  unfold maxLen at hcm
  have HH := Lib.hid (And.intro hML (And.intro hQ0 hQ1))
  have HB := Lib.hid hb
  have HN := Lib.hid hN
  have hi0 : (0 : Int) ≤ (i : Int) := by omega
  have hi1 : (i : Int) < (N.length : Int) := by omega
  have HP := Lib.hid hna1.ps
  obtain ⟨e0, e1, e2, e3, e4, e5, -⟩ := hna1
  dsimp only at e0 e1 e2 e3 e4 e5 HP HPL
  clear hna hR hML hQ0 hQ1 hb hN hsm hil
  unfold trv
  have HZ := Lib.hid hz
  have HNL := Lib.hid hnl
  clear hz hnl
  rcases hi with ⟨rfl, rfl⟩ | ⟨hxe, rfl⟩
  · skip
    go_enter Try.func40, Try.ntmps40
    go_upto_region 3 with (fail)
    generalize (World.alloc W _ : World) = W1 at *
    have y0 := T1.out.at_ 0 _ rfl
    have y1 := T1.out.at_ 1 _ rfl
    have B8 := Lib.hid (Bk.new W1 #[.bool false, .int .i64 k, .int .i64 la, .int .i64 lb, .slice pa p.length pc, .int .i64 st] 47)
    have HSRC := Lib.hid (src_any (HP.out.below (al1 (.cells #[.bool false, .int .i64 k, .int .i64 la, .int .i64 lb, .slice pa p.length pc, .int .i64 st] 47))))
    have HLL := Lib.hid (show ([] : List Pr).length + p.length ≤ 10000000 by have := HPL.out; simp; omega)
    have HEE := Lib.hid (show ([] : List Pr).length + p.length = p.length by simp)
    go_upto_region 6 with (at_builtin; refine wpList_app rfl _ (.tmp 28) rfl (fun j => j < (W1.alloc (.cells #[.bool false, .int .i64 k, .int .i64 la, .int .i64 lb, .slice pa p.length pc, .int .i64 st] 47)).heap.size) _ [] p rfl (PRow.nil _ _) (fun k hk => hk) _ rfl HSRC.out HLL.out _ HEE.out _ rfl ?_; intro ao7 cp7 w7 hm7 hc7 hR7 hO7; have H7 := Lib.hid (And.intro hR7 (only_lt (Below.refl _ _) hO7)); have x4b := (B8.out.keep H7.out.2).at_ 4 _ rfl; have f4b := (B8.out.keep H7.out.2).fr 4; clear hR7 hO7; unfold maxLen at hm7)
    have O8 := Lib.hid ((((Only.refl (fun k => W1.heap.size ≤ k) W1).alloc (.cells #[.bool false, .int .i64 k, .int .i64 la, .int .i64 lb, .slice pa p.length pc, .int .i64 st] 47)).trans (Only.ofBelow H7.out.2) (fun i hi _ => hi)).setCell (S := fun k => W1.heap.size ≤ k) (p := ⟨W1.heap.size, 4, none⟩) (.inl (Nat.le_refl _)) (.slice ao7 p.length cp7))
    have hg7 : W1.heap.size < w7.heap.size := (B8.out.keep H7.out.2).lt
    have X8 := Lib.hid ((B8.out.keep H7.out.2).set 4 (.slice ao7 p.length cp7) (by simp))
    have hO1 : Only (fun k => k = W1.heap.size) w7 (w7.setCell ⟨W1.heap.size, 4, none⟩ (.slice ao7 p.length cp7)) := (Only.refl _ w7).setCell (S := fun k => k = W1.heap.size) (p := ⟨W1.heap.size, 4, none⟩) (.inl rfl) _
    have R8 := Lib.hid ((R1.out.keep (bel2 (al1 (.cells #[.bool false, .int .i64 k, .int .i64 la, .int .i64 lb, .slice pa p.length pc, .int .i64 st] 47)) H7.out.2)).only hO1 (fun k hk => .inr (.inr (by subst hk; exact HW1.out))))
    have D8 := Lib.hid (show Prs (w7.setCell ⟨W1.heap.size, 4, none⟩ (.slice ao7 p.length cp7)) ao7 cp7 p from prs_only (H7.out.1.prs rfl) hO1 (fun _ b o sp e hb => by
      have h1 : ¬ b < (W1.alloc (.cells #[.bool false, .int .i64 k, .int .i64 la, .int .i64 lb, .slice pa p.length pc, .int .i64 st] 47)).heap.size := H7.out.1.av b (by rw [e]; rfl)
      simp only [World.size_alloc] at h1
      omega))
    have SEP := Lib.hid (show ∀ b o sp, ao7 = some ⟨b, o, sp⟩ → b < w7.heap.size ∧ ¬ (Q b ∨ b = W.heap.size ∨ b = W.heap.size + 1) ∧ (Value.slice ao n co).ownBlock ≠ some b from fun b o sp e => by
      have h1 : ¬ b < (W1.alloc (.cells #[.bool false, .int .i64 k, .int .i64 la, .int .i64 lb, .slice pa p.length pc, .int .i64 st] 47)).heap.size := H7.out.1.av b (by rw [e]; rfl)
      simp only [World.size_alloc] at h1
      have h2 := (H7.out.1.row.lt b (by rw [e]; rfl)).2
      have h3 := HW1.out
      refine ⟨h2, fun h => ?_, fun h => ?_⟩
      · rcases h with h | h | h
        · have := HH.out.2.2 b h; omega
        · omega
        · omega
      · have := HOWN.out b h; omega)
    have T8 := Lib.hid (T1.out.only O8.out (by have := HW1.out; show ¬ (_ ≤ _); omega))
    clear x4b f4b y0 y1 hO1
    have HW8 := Lib.hid (show w7.heap.size = (w7.setCell ⟨W1.heap.size, 4, none⟩ (.slice ao7 p.length cp7)).heap.size from by simp [World.setCell])
    have HG := Lib.hid hg7
    clear hg7 B8 HSRC e0 e1 e2 e3 e4 e5
    generalize (World.setCell w7 _ _ : World) = W8 at *
    have x0 := X8.out.at_ 0 _ rfl
    have x1 := X8.out.at_ 1 _ rfl
    have x2 := X8.out.at_ 2 _ rfl
    have x3 := X8.out.at_ 3 _ rfl
    have x4 := X8.out.at_ 4 _ rfl
    have x5 := X8.out.at_ 5 _ rfl
    have R9 := Lib.hid (R8.out.keep (al1 (.cells #[.bool false, .int .i64 k, .int .i64 la, .int .i64 lb, .slice ao7 p.length cp7, .int .i64 st] 47)))
    have D9 := Lib.hid (D8.out.below (al1 (.cells #[.bool false, .int .i64 k, .int .i64 la, .int .i64 lb, .slice ao7 p.length cp7, .int .i64 st] 47)))
    have B9 := Lib.hid (Bk.new W8 #[.bool false, .int .i64 k, .int .i64 la, .int .i64 lb, .slice ao7 p.length cp7, .int .i64 st] 47)
    have T9 := Lib.hid (T8.out.past (.cells #[.bool false, .int .i64 k, .int .i64 la, .int .i64 lb, .slice ao7 p.length cp7, .int .i64 st] 47))
    have X9 := Lib.hid (X8.out.past (.cells #[.bool false, .int .i64 k, .int .i64 la, .int .i64 lb, .slice ao7 p.length cp7, .int .i64 st] 47))
    have O9 := Lib.hid (O8.out.alloc (.cells #[.bool false, .int .i64 k, .int .i64 la, .int .i64 lb, .slice ao7 p.length cp7, .int .i64 st] 47))
    have HQ9 := Lib.hid (show ∀ j, (Q j ∨ j = W.heap.size ∨ j = W.heap.size + 1) → j < (W8.alloc (.cells #[.bool false, .int .i64 k, .int .i64 la, .int .i64 lb, .slice ao7 p.length cp7, .int .i64 st] 47)).heap.size from fun j hj => by
      have h1 := HG.out; have h2 := HW8.out; have h3 := HW1.out; simp only [World.size_alloc]
      rcases hj with h | h | h
      · have := HH.out.2.2 j h; omega
      · omega
      · omega)
    have HS9 := Lib.hid (show p ≠ [] → ∀ b o sp, ao7 = some ⟨b, o, sp⟩ → b < (W8.alloc (.cells #[.bool false, .int .i64 k, .int .i64 la, .int .i64 lb, .slice ao7 p.length cp7, .int .i64 st] 47)).heap.size ∧ ¬ (Q b ∨ b = W.heap.size ∨ b = W.heap.size + 1) ∧ (Value.slice ao n co).ownBlock ≠ some b from fun _ b o sp e => ⟨by
      have := (SEP.out b o sp e).1; have := HW8.out; simp only [World.size_alloc]; omega, (SEP.out b o sp e).2⟩)
    have HM9 := Lib.hid (show M.length ≤ 10000 by have := HH.out.1; have := HNL.out; omega)
    have HN9 := Lib.hid (show M.length + 1 = n + 1 by rw [HH.out.1])
    have HNQ := Lib.hid (show ¬ ((Value.slice ao n co).ownBlock = some W.heap.size) ∧ ¬ ((Value.slice ao n co).ownBlock = some W1.heap.size) from ⟨fun e => by have := HOWN.out _ e; omega, fun e => by have h1 := HOWN.out _ e; have h2 := HW1.out; omega⟩)
    go_upto_region 7 with (at_builtin; go_loud (refine wpList_pushnd rfl (.tmp 31) (.tmp 33) rfl (fun k => Q k ∨ k = W.heap.size ∨ k = W.heap.size + 1) _ M rfl R9.out HQ9.out ⟨⟨false, k, la, lb, p, st⟩, ao7, cp7⟩ D9.out HS9.out W8.heap.size rfl B9.out HM9.out (n + 1) HN9.out ?_); intro a4 c4 w4 hm4 hc4 hR4 hO4 hk4; have R4 := Lib.hid (And.intro hR4 (And.intro hO4 hk4)); have T4 := Lib.hid (T9.out.only hO4 HNQ.out.1); have X4 := Lib.hid (X9.out.only hO4 HNQ.out.2); clear hR4 hO4 hk4; unfold maxLen at hm4)
    have x0 := X4.out.at_ 0 _ rfl
    have U4 := Lib.hid (show Only (fun k => (Value.slice ao n co).ownBlock = some k) W w4 from (O1.out.trans ((O9.out.mono (T := fun k => W.heap.size ≤ k) (fun k hk _ => by have : W1.heap.size ≤ k := hk; have := HW1.out; omega))) (fun k hk hk2 => absurd hk2 (by have : W.heap.size ≤ k := hk; omega))).trans R4.out.2.1 (fun k hk _ => hk))
    have K4 := Lib.hid (show ∀ k, (Value.slice a4 (n + 1) c4).ownBlock = some k → (Value.slice ao n co).ownBlock = some k ∨ W.heap.size ≤ k from fun k hk => (R4.out.2.2 k hk).imp id (fun h => by have h1 := HW8.out; have h2 := HG.out; have h3 := HW1.out; simp only [World.size_alloc] at h; omega))
    clear R8 D8 SEP T8 X8 O8 HQ9 HS9 HM9 HN9 R9 D9 B9 T9 X9 O9 H7 HLL HEE
    go_wp2_with (fail)
    exact bodyPost_ret (v := .tuple #[.slice a4 (n + 1) c4, .int .i64 (n : Int)]) (by simp [results, Try.results40, go_sem]) rfl (ci_lf_fin (m := ⟨⟨false, k, la, lb, p, st⟩, ao7, cp7⟩) HZ.out HH.out.1 (fun k hk => .inl hk) R4.out.1 U4.out K4.out)
  · have hxb : ((i : Int) == x) = false := beq_eq_false_iff_ne.2 hxe
    go_enter Try.func40, Try.ntmps40
    go_upto_region 3 with (fail)
    generalize (World.alloc W _ : World) = W1 at *
    have y0 := T1.out.at_ 0 _ rfl
    have y1 := T1.out.at_ 1 _ rfl
    have B8 := Lib.hid (Bk.new W1 #[.bool false, .int .i64 k, .int .i64 la, .int .i64 lb, .slice pa p.length pc, .int .i64 st] 47)
    have HSRC := Lib.hid (src_any (HP.out.below (al1 (.cells #[.bool false, .int .i64 k, .int .i64 la, .int .i64 lb, .slice pa p.length pc, .int .i64 st] 47))))
    have HLL := Lib.hid (show ([] : List Pr).length + p.length ≤ 10000000 by have := HPL.out; simp; omega)
    have HEE := Lib.hid (show ([] : List Pr).length + p.length = p.length by simp)
    go_upto_region 6 with (at_builtin; refine wpList_app rfl _ (.tmp 28) rfl (fun j => j < (W1.alloc (.cells #[.bool false, .int .i64 k, .int .i64 la, .int .i64 lb, .slice pa p.length pc, .int .i64 st] 47)).heap.size) _ [] p rfl (PRow.nil _ _) (fun k hk => hk) _ rfl HSRC.out HLL.out _ HEE.out _ rfl ?_; intro ao7 cp7 w7 hm7 hc7 hR7 hO7; have H7 := Lib.hid (And.intro hR7 (only_lt (Below.refl _ _) hO7)); have x4b := (B8.out.keep H7.out.2).at_ 4 _ rfl; have f4b := (B8.out.keep H7.out.2).fr 4; clear hR7 hO7; unfold maxLen at hm7)
    have O8 := Lib.hid ((((Only.refl (fun k => W1.heap.size ≤ k) W1).alloc (.cells #[.bool false, .int .i64 k, .int .i64 la, .int .i64 lb, .slice pa p.length pc, .int .i64 st] 47)).trans (Only.ofBelow H7.out.2) (fun i hi _ => hi)).setCell (S := fun k => W1.heap.size ≤ k) (p := ⟨W1.heap.size, 4, none⟩) (.inl (Nat.le_refl _)) (.slice ao7 p.length cp7))
    have hg7 : W1.heap.size < w7.heap.size := (B8.out.keep H7.out.2).lt
    have X8 := Lib.hid ((B8.out.keep H7.out.2).set 4 (.slice ao7 p.length cp7) (by simp))
    have hO1 : Only (fun k => k = W1.heap.size) w7 (w7.setCell ⟨W1.heap.size, 4, none⟩ (.slice ao7 p.length cp7)) := (Only.refl _ w7).setCell (S := fun k => k = W1.heap.size) (p := ⟨W1.heap.size, 4, none⟩) (.inl rfl) _
    have R8 := Lib.hid ((R1.out.keep (bel2 (al1 (.cells #[.bool false, .int .i64 k, .int .i64 la, .int .i64 lb, .slice pa p.length pc, .int .i64 st] 47)) H7.out.2)).only hO1 (fun k hk => .inr (.inr (by subst hk; exact HW1.out))))
    have D8 := Lib.hid (show Prs (w7.setCell ⟨W1.heap.size, 4, none⟩ (.slice ao7 p.length cp7)) ao7 cp7 p from prs_only (H7.out.1.prs rfl) hO1 (fun _ b o sp e hb => by
      have h1 : ¬ b < (W1.alloc (.cells #[.bool false, .int .i64 k, .int .i64 la, .int .i64 lb, .slice pa p.length pc, .int .i64 st] 47)).heap.size := H7.out.1.av b (by rw [e]; rfl)
      simp only [World.size_alloc] at h1
      omega))
    have SEP := Lib.hid (show ∀ b o sp, ao7 = some ⟨b, o, sp⟩ → b < w7.heap.size ∧ ¬ (Q b ∨ b = W.heap.size ∨ b = W.heap.size + 1) ∧ (Value.slice ao n co).ownBlock ≠ some b from fun b o sp e => by
      have h1 : ¬ b < (W1.alloc (.cells #[.bool false, .int .i64 k, .int .i64 la, .int .i64 lb, .slice pa p.length pc, .int .i64 st] 47)).heap.size := H7.out.1.av b (by rw [e]; rfl)
      simp only [World.size_alloc] at h1
      have h2 := (H7.out.1.row.lt b (by rw [e]; rfl)).2
      have h3 := HW1.out
      refine ⟨h2, fun h => ?_, fun h => ?_⟩
      · rcases h with h | h | h
        · have := HH.out.2.2 b h; omega
        · omega
        · omega
      · have := HOWN.out b h; omega)
    have T8 := Lib.hid (T1.out.only O8.out (by have := HW1.out; show ¬ (_ ≤ _); omega))
    clear x4b f4b y0 y1 hO1
    have HW8 := Lib.hid (show w7.heap.size = (w7.setCell ⟨W1.heap.size, 4, none⟩ (.slice ao7 p.length cp7)).heap.size from by simp [World.setCell])
    have HG := Lib.hid hg7
    clear hg7 B8 HSRC e0 e1 e2 e3 e4 e5
    generalize (World.setCell w7 _ _ : World) = W8 at *
    have x0 := X8.out.at_ 0 _ rfl
    have x1 := X8.out.at_ 1 _ rfl
    have x2 := X8.out.at_ 2 _ rfl
    have x3 := X8.out.at_ 3 _ rfl
    have x4 := X8.out.at_ 4 _ rfl
    have x5 := X8.out.at_ 5 _ rfl
    have R9 := Lib.hid (R8.out.keep (al1 (.cells #[.bool false, .int .i64 k, .int .i64 la, .int .i64 lb, .slice ao7 p.length cp7, .int .i64 st] 47)))
    have D9 := Lib.hid (D8.out.below (al1 (.cells #[.bool false, .int .i64 k, .int .i64 la, .int .i64 lb, .slice ao7 p.length cp7, .int .i64 st] 47)))
    have B9 := Lib.hid (Bk.new W8 #[.bool false, .int .i64 k, .int .i64 la, .int .i64 lb, .slice ao7 p.length cp7, .int .i64 st] 47)
    have T9 := Lib.hid (T8.out.past (.cells #[.bool false, .int .i64 k, .int .i64 la, .int .i64 lb, .slice ao7 p.length cp7, .int .i64 st] 47))
    have X9 := Lib.hid (X8.out.past (.cells #[.bool false, .int .i64 k, .int .i64 la, .int .i64 lb, .slice ao7 p.length cp7, .int .i64 st] 47))
    have O9 := Lib.hid (O8.out.alloc (.cells #[.bool false, .int .i64 k, .int .i64 la, .int .i64 lb, .slice ao7 p.length cp7, .int .i64 st] 47))
    have HQ9 := Lib.hid (show ∀ j, (Q j ∨ j = W.heap.size ∨ j = W.heap.size + 1) → j < (W8.alloc (.cells #[.bool false, .int .i64 k, .int .i64 la, .int .i64 lb, .slice ao7 p.length cp7, .int .i64 st] 47)).heap.size from fun j hj => by
      have h1 := HG.out; have h2 := HW8.out; have h3 := HW1.out; simp only [World.size_alloc]
      rcases hj with h | h | h
      · have := HH.out.2.2 j h; omega
      · omega
      · omega)
    have HS9 := Lib.hid (show p ≠ [] → ∀ b o sp, ao7 = some ⟨b, o, sp⟩ → b < (W8.alloc (.cells #[.bool false, .int .i64 k, .int .i64 la, .int .i64 lb, .slice ao7 p.length cp7, .int .i64 st] 47)).heap.size ∧ ¬ (Q b ∨ b = W.heap.size ∨ b = W.heap.size + 1) ∧ (Value.slice ao n co).ownBlock ≠ some b from fun _ b o sp e => ⟨by
      have := (SEP.out b o sp e).1; have := HW8.out; simp only [World.size_alloc]; omega, (SEP.out b o sp e).2⟩)
    have HM9 := Lib.hid (show M.length ≤ 10000 by have := HH.out.1; have := HNL.out; omega)
    have HN9 := Lib.hid (show M.length + 1 = n + 1 by rw [HH.out.1])
    have HNQ := Lib.hid (show ¬ ((Value.slice ao n co).ownBlock = some W.heap.size) ∧ ¬ ((Value.slice ao n co).ownBlock = some W1.heap.size) from ⟨fun e => by have := HOWN.out _ e; omega, fun e => by have h1 := HOWN.out _ e; have h2 := HW1.out; omega⟩)
    go_upto_region 7 with (at_builtin; go_loud (refine wpList_pushnd rfl (.tmp 31) (.tmp 33) rfl (fun k => Q k ∨ k = W.heap.size ∨ k = W.heap.size + 1) _ M rfl R9.out HQ9.out ⟨⟨false, k, la, lb, p, st⟩, ao7, cp7⟩ D9.out HS9.out W8.heap.size rfl B9.out HM9.out (n + 1) HN9.out ?_); intro a4 c4 w4 hm4 hc4 hR4 hO4 hk4; have R4 := Lib.hid (And.intro hR4 (And.intro hO4 hk4)); have T4 := Lib.hid (T9.out.only hO4 HNQ.out.1); have X4 := Lib.hid (X9.out.only hO4 HNQ.out.2); clear hR4 hO4 hk4; unfold maxLen at hm4)
    have x0 := X4.out.at_ 0 _ rfl
    have U4 := Lib.hid (show Only (fun k => (Value.slice ao n co).ownBlock = some k) W w4 from (O1.out.trans ((O9.out.mono (T := fun k => W.heap.size ≤ k) (fun k hk _ => by have : W1.heap.size ≤ k := hk; have := HW1.out; omega))) (fun k hk hk2 => absurd hk2 (by have : W.heap.size ≤ k := hk; omega))).trans R4.out.2.1 (fun k hk _ => hk))
    have K4 := Lib.hid (show ∀ k, (Value.slice a4 (n + 1) c4).ownBlock = some k → (Value.slice ao n co).ownBlock = some k ∨ W.heap.size ≤ k from fun k hk => (R4.out.2.2 k hk).imp id (fun h => by have h1 := HW8.out; have h2 := HG.out; have h3 := HW1.out; simp only [World.size_alloc] at h; omega))
    clear R8 D8 SEP T8 X8 O8 HQ9 HS9 HM9 HN9 R9 D9 B9 T9 X9 O9 H7 HLL HEE
    go_wp2_with (fail)
    exact bodyPost_ret (v := .tuple #[.slice a4 (n + 1) c4, .int .i64 (n : Int)]) (by simp [results, Try.results40, go_sem]) rfl (ci_lf_fin (m := ⟨⟨false, k, la, lb, p, st⟩, ao7, cp7⟩) HZ.out HH.out.1 (fun k hk => .inl hk) R4.out.1 U4.out K4.out)
set_option maxRecDepth 100000 in
set_option maxHeartbeats 6400000 in
theorem ci_rt {w0 W : World} {t0 x o t : Int} {a : Option Addr} {cap : Nat} {N : List Nd} (hN : Ns w0 a cap N) (hsm : Small N) {i : Nat} {Q : Nat → Prop} {ao : Option Addr} {n co : Nat} {M : List RN} (hML : M.length = n) (hb : Below w0.heap.size w0 W) (hR : NRow W Q (.slice ao n co) M) (hQ0 : ∀ k, k < w0.heap.size → Q k) (hQ1 : ∀ k, Q k → k < W.heap.size) (hi : t = x ∧ o = (i : Int) ∨ t ≠ x ∧ t = (i : Int)) {k la lb st : Int} {p : List Pr} (hz : N[i]? = some ⟨true, k, la, lb, p, st⟩) (hp0 : p = []) (hst : st = 0) {l r : Sh} {ll rr : Nat} (hll : l.pre.length = ll) (hrr : r.pre.length = rr) (hnl : n + 1 + ll + rr ≤ 2000) (hC : CiOk w0 t0 a cap N x o l ∧ CiOk w0 t0 a cap N x o r ∧ Cp N x o l la ∧ Cp N x o r lb) :
    Calls Try.prog 40 #[trv t0 a cap N, .int .i64 t, .int .i64 x, .int .i64 o, .slice ao n co] W (CiIs N Q (.slice ao n co) M n (.rt i l r) W) := by
  have HC := Lib.hid hC
  have HNL := Lib.hid (And.intro hll (And.intro hrr hnl))
  have HRO := Lib.hid (show ∀ k, (Value.slice ao n co).ownBlock = some k → w0.heap.size ≤ k from fun k hk => Nat.le_of_not_lt (fun h => hR.own k hk (hQ0 k h)))
  clear hC hll hrr hnl
  have hl1 := hsm.1
  have hc1 := hN.1
  have hc2 := hN.2.1
  unfold maxLen at hc2
  have hil := (List.getElem?_eq_some_iff.1 hz).1
  obtain ⟨b, oo, pa, pc, rfl, hna⟩ := (hN.keep hb).2.2 i _ hz
  have HPL := Lib.hid (hsm.at hz)
  have hna1 := hna.keep (al1 (.cells #[.int .i64 t0, .slice (some ⟨b, oo, none⟩) N.length cap] 24))
  have T1 := Lib.hid (Bk.new W #[.int .i64 t0, .slice (some ⟨b, oo, none⟩) N.length cap] 24)
  have R1 := Lib.hid ((hR.sub (Q' := fun k => Q k ∨ k = W.heap.size ∨ k = W.heap.size + 1) (fun k hk hq => by
    rcases hq with h | h | h
    · exact h
    · omega
    · omega)).keep (al1 (.cells #[.int .i64 t0, .slice (some ⟨b, oo, none⟩) N.length cap] 24)))
  have HW1 := Lib.hid (show (W.alloc (.cells #[.int .i64 t0, .slice (some ⟨b, oo, none⟩) N.length cap] 24)).heap.size = W.heap.size + 1 from World.size_alloc ..)
  have O1 := Lib.hid ((Only.refl (fun k => (Value.slice ao n co).ownBlock = some k) W).alloc (.cells #[.int .i64 t0, .slice (some ⟨b, oo, none⟩) N.length cap] 24))
  have HOWN := Lib.hid (show ∀ k, (Value.slice ao n co).ownBlock = some k → k < W.heap.size from fun k hk => (hR.row.lt k hk).2)
  obtain ⟨ao', co', e', hco, hcm⟩ := hR.form
  rw [hML] at e' hco
  injection e' with e1 e2 e3
  subst e3
  clear e1 e2
  unfold maxLen at hcm
  have HH := Lib.hid (And.intro hML (And.intro hQ0 hQ1))
  have HB := Lib.hid hb
  have HN := Lib.hid hN
  have hi0 : (0 : Int) ≤ (i : Int) := by omega
  have hi1 : (i : Int) < (N.length : Int) := by omega
  have HP := Lib.hid hna1.ps
  obtain ⟨e0, e1, e2, e3, e4, e5, -⟩ := hna1
  dsimp only at e0 e1 e2 e3 e4 e5 HP HPL
  clear hna hR hML hQ0 hQ1 hb hN hsm hil
  unfold trv
  have HZ := Lib.hid (And.intro hz (And.intro hp0 hst))
  clear hz hp0 hst
  rcases hi with ⟨rfl, rfl⟩ | ⟨hxe, rfl⟩
  · skip
    go_enter Try.func40, Try.ntmps40
    go_upto_region 3 with (fail)
    generalize (World.alloc W _ : World) = W1 at *
    have y0 := T1.out.at_ 0 _ rfl
    have y1 := T1.out.at_ 1 _ rfl
    have B8 := Lib.hid (Bk.new W1 #[.bool true, .int .i64 k, .int .i64 la, .int .i64 lb, .slice pa p.length pc, .int .i64 st] 47)
    have HSRC := Lib.hid (src_any (HP.out.below (al1 (.cells #[.bool true, .int .i64 k, .int .i64 la, .int .i64 lb, .slice pa p.length pc, .int .i64 st] 47))))
    have HLL := Lib.hid (show ([] : List Pr).length + p.length ≤ 10000000 by have := HPL.out; simp; omega)
    have HEE := Lib.hid (show ([] : List Pr).length + p.length = p.length by simp)
    go_upto_region 6 with (at_builtin; refine wpList_app rfl _ (.tmp 28) rfl (fun j => j < (W1.alloc (.cells #[.bool true, .int .i64 k, .int .i64 la, .int .i64 lb, .slice pa p.length pc, .int .i64 st] 47)).heap.size) _ [] p rfl (PRow.nil _ _) (fun k hk => hk) _ rfl HSRC.out HLL.out _ HEE.out _ rfl ?_; intro ao7 cp7 w7 hm7 hc7 hR7 hO7; have H7 := Lib.hid (And.intro hR7 (only_lt (Below.refl _ _) hO7)); have x4b := (B8.out.keep H7.out.2).at_ 4 _ rfl; have f4b := (B8.out.keep H7.out.2).fr 4; clear hR7 hO7; unfold maxLen at hm7)
    have O8 := Lib.hid ((((Only.refl (fun k => W1.heap.size ≤ k) W1).alloc (.cells #[.bool true, .int .i64 k, .int .i64 la, .int .i64 lb, .slice pa p.length pc, .int .i64 st] 47)).trans (Only.ofBelow H7.out.2) (fun i hi _ => hi)).setCell (S := fun k => W1.heap.size ≤ k) (p := ⟨W1.heap.size, 4, none⟩) (.inl (Nat.le_refl _)) (.slice ao7 p.length cp7))
    have hg7 : W1.heap.size < w7.heap.size := (B8.out.keep H7.out.2).lt
    have X8 := Lib.hid ((B8.out.keep H7.out.2).set 4 (.slice ao7 p.length cp7) (by simp))
    have hO1 : Only (fun k => k = W1.heap.size) w7 (w7.setCell ⟨W1.heap.size, 4, none⟩ (.slice ao7 p.length cp7)) := (Only.refl _ w7).setCell (S := fun k => k = W1.heap.size) (p := ⟨W1.heap.size, 4, none⟩) (.inl rfl) _
    have R8 := Lib.hid ((R1.out.keep (bel2 (al1 (.cells #[.bool true, .int .i64 k, .int .i64 la, .int .i64 lb, .slice pa p.length pc, .int .i64 st] 47)) H7.out.2)).only hO1 (fun k hk => .inr (.inr (by subst hk; exact HW1.out))))
    have D8 := Lib.hid (show Prs (w7.setCell ⟨W1.heap.size, 4, none⟩ (.slice ao7 p.length cp7)) ao7 cp7 p from prs_only (H7.out.1.prs rfl) hO1 (fun _ b o sp e hb => by
      have h1 : ¬ b < (W1.alloc (.cells #[.bool true, .int .i64 k, .int .i64 la, .int .i64 lb, .slice pa p.length pc, .int .i64 st] 47)).heap.size := H7.out.1.av b (by rw [e]; rfl)
      simp only [World.size_alloc] at h1
      omega))
    have SEP := Lib.hid (show ∀ b o sp, ao7 = some ⟨b, o, sp⟩ → b < w7.heap.size ∧ ¬ (Q b ∨ b = W.heap.size ∨ b = W.heap.size + 1) ∧ (Value.slice ao n co).ownBlock ≠ some b from fun b o sp e => by
      have h1 : ¬ b < (W1.alloc (.cells #[.bool true, .int .i64 k, .int .i64 la, .int .i64 lb, .slice pa p.length pc, .int .i64 st] 47)).heap.size := H7.out.1.av b (by rw [e]; rfl)
      simp only [World.size_alloc] at h1
      have h2 := (H7.out.1.row.lt b (by rw [e]; rfl)).2
      have h3 := HW1.out
      refine ⟨h2, fun h => ?_, fun h => ?_⟩
      · rcases h with h | h | h
        · have := HH.out.2.2 b h; omega
        · omega
        · omega
      · have := HOWN.out b h; omega)
    have T8 := Lib.hid (T1.out.only O8.out (by have := HW1.out; show ¬ (_ ≤ _); omega))
    clear x4b f4b y0 y1 hO1
    have HW8 := Lib.hid (show w7.heap.size = (w7.setCell ⟨W1.heap.size, 4, none⟩ (.slice ao7 p.length cp7)).heap.size from by simp [World.setCell])
    have HG := Lib.hid hg7
    clear hg7 B8 HSRC e0 e1 e2 e3 e4 e5
    generalize (World.setCell w7 _ _ : World) = W8 at *
    have x0 := X8.out.at_ 0 _ rfl
    have x1 := X8.out.at_ 1 _ rfl
    have x2 := X8.out.at_ 2 _ rfl
    have x3 := X8.out.at_ 3 _ rfl
    have x4 := X8.out.at_ 4 _ rfl
    have x5 := X8.out.at_ 5 _ rfl
    have R9 := Lib.hid (R8.out.keep (al1 (.cells #[.bool true, .int .i64 k, .int .i64 la, .int .i64 lb, .slice ao7 p.length cp7, .int .i64 st] 47)))
    have D9 := Lib.hid (D8.out.below (al1 (.cells #[.bool true, .int .i64 k, .int .i64 la, .int .i64 lb, .slice ao7 p.length cp7, .int .i64 st] 47)))
    have B9 := Lib.hid (Bk.new W8 #[.bool true, .int .i64 k, .int .i64 la, .int .i64 lb, .slice ao7 p.length cp7, .int .i64 st] 47)
    have T9 := Lib.hid (T8.out.past (.cells #[.bool true, .int .i64 k, .int .i64 la, .int .i64 lb, .slice ao7 p.length cp7, .int .i64 st] 47))
    have X9 := Lib.hid (X8.out.past (.cells #[.bool true, .int .i64 k, .int .i64 la, .int .i64 lb, .slice ao7 p.length cp7, .int .i64 st] 47))
    have O9 := Lib.hid (O8.out.alloc (.cells #[.bool true, .int .i64 k, .int .i64 la, .int .i64 lb, .slice ao7 p.length cp7, .int .i64 st] 47))
    have HQ9 := Lib.hid (show ∀ j, (Q j ∨ j = W.heap.size ∨ j = W.heap.size + 1) → j < (W8.alloc (.cells #[.bool true, .int .i64 k, .int .i64 la, .int .i64 lb, .slice ao7 p.length cp7, .int .i64 st] 47)).heap.size from fun j hj => by
      have h1 := HG.out; have h2 := HW8.out; have h3 := HW1.out; simp only [World.size_alloc]
      rcases hj with h | h | h
      · have := HH.out.2.2 j h; omega
      · omega
      · omega)
    have HS9 := Lib.hid (show p ≠ [] → ∀ b o sp, ao7 = some ⟨b, o, sp⟩ → b < (W8.alloc (.cells #[.bool true, .int .i64 k, .int .i64 la, .int .i64 lb, .slice ao7 p.length cp7, .int .i64 st] 47)).heap.size ∧ ¬ (Q b ∨ b = W.heap.size ∨ b = W.heap.size + 1) ∧ (Value.slice ao n co).ownBlock ≠ some b from fun _ b o sp e => ⟨by
      have := (SEP.out b o sp e).1; have := HW8.out; simp only [World.size_alloc]; omega, (SEP.out b o sp e).2⟩)
    have HM9 := Lib.hid (show M.length ≤ 10000 by have := HH.out.1; have := HNL.out; omega)
    have HN9 := Lib.hid (show M.length + 1 = n + 1 by rw [HH.out.1])
    have HNQ := Lib.hid (show ¬ ((Value.slice ao n co).ownBlock = some W.heap.size) ∧ ¬ ((Value.slice ao n co).ownBlock = some W1.heap.size) from ⟨fun e => by have := HOWN.out _ e; omega, fun e => by have h1 := HOWN.out _ e; have h2 := HW1.out; omega⟩)
    go_upto_region 7 with (at_builtin; go_loud (refine wpList_pushnd rfl (.tmp 31) (.tmp 33) rfl (fun k => Q k ∨ k = W.heap.size ∨ k = W.heap.size + 1) _ M rfl R9.out HQ9.out ⟨⟨true, k, la, lb, p, st⟩, ao7, cp7⟩ D9.out HS9.out W8.heap.size rfl B9.out HM9.out (n + 1) HN9.out ?_); intro a4 c4 w4 hm4 hc4 hR4 hO4 hk4; have R4 := Lib.hid (And.intro hR4 (And.intro hO4 hk4)); have T4 := Lib.hid (T9.out.only hO4 HNQ.out.1); have X4 := Lib.hid (X9.out.only hO4 HNQ.out.2); clear hR4 hO4 hk4; unfold maxLen at hm4)
    have x0 := X4.out.at_ 0 _ rfl
    have U4 := Lib.hid (show Only (fun k => (Value.slice ao n co).ownBlock = some k) W w4 from (O1.out.trans ((O9.out.mono (T := fun k => W.heap.size ≤ k) (fun k hk _ => by have : W1.heap.size ≤ k := hk; have := HW1.out; omega))) (fun k hk hk2 => absurd hk2 (by have : W.heap.size ≤ k := hk; omega))).trans R4.out.2.1 (fun k hk _ => hk))
    have K4 := Lib.hid (show ∀ k, (Value.slice a4 (n + 1) c4).ownBlock = some k → (Value.slice ao n co).ownBlock = some k ∨ W.heap.size ≤ k from fun k hk => (R4.out.2.2 k hk).imp id (fun h => by have h1 := HW8.out; have h2 := HG.out; have h3 := HW1.out; simp only [World.size_alloc] at h; omega))
    clear R8 D8 SEP T8 X8 O8 HQ9 HS9 HM9 HN9 R9 D9 B9 T9 X9 O9 H7 HLL HEE
    have x2 := X4.out.at_ 2 _ rfl
    have y0 := T4.out.at_ 0 _ rfl
    have y1 := T4.out.at_ 1 _ rfl
    have B4 := Lib.hid (show Below w0.heap.size w0 w4 from HB.out.trans (U4.out.below (B := w0.heap.size) (fun k hk => HRO.out k hk) HB.out.size))
    have HQA := Lib.hid (show ∀ k, k < w0.heap.size → (Q k ∨ k = W.heap.size ∨ k = W.heap.size + 1) from fun k hk => .inl (HH.out.2.1 k hk))
    have HQB := Lib.hid (show ∀ k, (Q k ∨ k = W.heap.size ∨ k = W.heap.size + 1) → k < w4.heap.size from fun k hk => by
      have h1 := T4.out.lt; have h2 := X4.out.lt; have h3 := HW1.out
      rcases hk with h | h | h
      · have := HH.out.2.2 k h; omega
      · omega
      · omega)
    have ciL := HC.out.1 w4 (fun k => Q k ∨ k = W.heap.size ∨ k = W.heap.size + 1) a4 (n + 1) c4 (M ++ [⟨⟨true, k, la, lb, p, st⟩, ao7, cp7⟩]) la (by have := HH.out.1; simp; omega) HC.out.2.2.1 (by have := HNL.out; omega) B4.out R4.out.1 HQA.out HQB.out
    unfold CiIs trv at ciL
    rw [HNL.out.1] at ciL
    go_upto_region 10 with (go_at_call 40; ((with_reducible refine ciL.mono ?_); clear ciL x0 x2 y0 y1; rintro e w5 ⟨a5, c5, M5, rfl, hM5, hL5, hR5, hO5, hk5⟩; have R5 := Lib.hid (And.intro hM5 (And.intro hL5 (And.intro hR5 (And.intro hO5 hk5)))); have T5 := Lib.hid (T4.out.only hO5 (fun e => R4.out.1.own _ e (.inr (.inl rfl)))); have X5 := Lib.hid (X4.out.only hO5 (fun e => R4.out.1.own _ e (.inr (.inr HW1.out)))); clear hM5 hL5 hR5 hO5 hk5))
    have x3 := X5.out.at_ 3 _ rfl
    have y0 := T5.out.at_ 0 _ rfl
    have y1 := T5.out.at_ 1 _ rfl
    have B5 := Lib.hid (show Below w0.heap.size w0 w5 from B4.out.trans (R5.out.2.2.2.1.below (B := w0.heap.size) (fun k hk => Nat.le_of_not_lt (fun h => R4.out.1.own k hk (HQA.out k h))) B4.out.size))
    have ciR := HC.out.2.1 w5 (fun k => Q k ∨ k = W.heap.size ∨ k = W.heap.size + 1) a5 (n + 1 + ll) c5 M5 lb R5.out.2.1 HC.out.2.2.2 (by have := HNL.out; omega) B5.out R5.out.2.2.1 HQA.out (fun k hk => Nat.lt_of_lt_of_le (HQB.out k hk) R5.out.2.2.2.1.size)
    unfold CiIs trv at ciR
    rw [HNL.out.2.1] at ciR
    go_upto_region 11 with (go_at_call 40; ((with_reducible refine ciR.mono ?_); clear ciR x3 y0 y1; rintro e w6 ⟨a6, c6, M6, rfl, hM6, hL6, hR6, hO6, hk6⟩; have R6 := Lib.hid (And.intro hM6 (And.intro hL6 (And.intro hR6 (And.intro hO6 hk6)))); clear hM6 hL6 hR6 hO6 hk6))
    obtain ⟨m6, hm6⟩ : ∃ m6, M6[n]? = some m6 := ⟨_, List.getElem?_eq_getElem (by have := R6.out.2.1; omega)⟩
    obtain ⟨g6, rfl, -, hna6, hfz⟩ := R6.out.2.2.1.at hm6
    have z2 := hna6.c2
    have z3 := hna6.c3
    have HM6 := Lib.hid hm6
    clear hna6 hm6
    have hn0 : (0 : Int) ≤ (n : Int) := by omega
    have hn1 : (n : Int) < ((n + 1 + ll + rr : Nat) : Int) := by omega
    have hn2 : n < n + 1 + ll + rr := by omega
    have hn3 : (n : Int) < (n : Int) + 1 + ll + rr := by omega
    obtain ⟨_, _, ez, hcp1, hcp2⟩ := R6.out.2.2.1.form
    injection ez with ez1 ez2 ez3
    subst ez3
    rw [R6.out.2.1] at hcp1
    unfold maxLen at hcp2
    clear ez1 ez2
    go_wp2_with (fail)
    have hz9 := HZ.out.1
    have ep := HZ.out.2
    have FIN := ci_rt_fin (N := N) (i := i) (m := ⟨⟨true, k, la, lb, p, st⟩, ao7, cp7⟩) (by rw [ep.1, ep.2]) (by rw [← ep.1, ← ep.2]; exact hz9) HH.out.1 HNL.out.1 HNL.out.2.1 (fun k hk => .inl hk) U4.out K4.out R5.out.1 R5.out.2.2.2.1 R5.out.2.2.2.2 R6.out.1 R6.out.2.2.1 R6.out.2.2.2.1 R6.out.2.2.2.2 HM6.out (x := (n : Int) + 1) (y := (n : Int) + 1 + (ll : Int)) (by omega) (by omega)
    exact bodyPost_ret (v := .tuple #[.slice (some ⟨g6, 0, none⟩) (n + 1 + ll + rr) c6, .int .i64 (n : Int)]) (by simp [results, Try.results40, go_sem]) rfl FIN
  · have hxb : ((i : Int) == x) = false := beq_eq_false_iff_ne.2 hxe
    go_enter Try.func40, Try.ntmps40
    go_upto_region 3 with (fail)
    generalize (World.alloc W _ : World) = W1 at *
    have y0 := T1.out.at_ 0 _ rfl
    have y1 := T1.out.at_ 1 _ rfl
    have B8 := Lib.hid (Bk.new W1 #[.bool true, .int .i64 k, .int .i64 la, .int .i64 lb, .slice pa p.length pc, .int .i64 st] 47)
    have HSRC := Lib.hid (src_any (HP.out.below (al1 (.cells #[.bool true, .int .i64 k, .int .i64 la, .int .i64 lb, .slice pa p.length pc, .int .i64 st] 47))))
    have HLL := Lib.hid (show ([] : List Pr).length + p.length ≤ 10000000 by have := HPL.out; simp; omega)
    have HEE := Lib.hid (show ([] : List Pr).length + p.length = p.length by simp)
    go_upto_region 6 with (at_builtin; refine wpList_app rfl _ (.tmp 28) rfl (fun j => j < (W1.alloc (.cells #[.bool true, .int .i64 k, .int .i64 la, .int .i64 lb, .slice pa p.length pc, .int .i64 st] 47)).heap.size) _ [] p rfl (PRow.nil _ _) (fun k hk => hk) _ rfl HSRC.out HLL.out _ HEE.out _ rfl ?_; intro ao7 cp7 w7 hm7 hc7 hR7 hO7; have H7 := Lib.hid (And.intro hR7 (only_lt (Below.refl _ _) hO7)); have x4b := (B8.out.keep H7.out.2).at_ 4 _ rfl; have f4b := (B8.out.keep H7.out.2).fr 4; clear hR7 hO7; unfold maxLen at hm7)
    have O8 := Lib.hid ((((Only.refl (fun k => W1.heap.size ≤ k) W1).alloc (.cells #[.bool true, .int .i64 k, .int .i64 la, .int .i64 lb, .slice pa p.length pc, .int .i64 st] 47)).trans (Only.ofBelow H7.out.2) (fun i hi _ => hi)).setCell (S := fun k => W1.heap.size ≤ k) (p := ⟨W1.heap.size, 4, none⟩) (.inl (Nat.le_refl _)) (.slice ao7 p.length cp7))
    have hg7 : W1.heap.size < w7.heap.size := (B8.out.keep H7.out.2).lt
    have X8 := Lib.hid ((B8.out.keep H7.out.2).set 4 (.slice ao7 p.length cp7) (by simp))
    have hO1 : Only (fun k => k = W1.heap.size) w7 (w7.setCell ⟨W1.heap.size, 4, none⟩ (.slice ao7 p.length cp7)) := (Only.refl _ w7).setCell (S := fun k => k = W1.heap.size) (p := ⟨W1.heap.size, 4, none⟩) (.inl rfl) _
    have R8 := Lib.hid ((R1.out.keep (bel2 (al1 (.cells #[.bool true, .int .i64 k, .int .i64 la, .int .i64 lb, .slice pa p.length pc, .int .i64 st] 47)) H7.out.2)).only hO1 (fun k hk => .inr (.inr (by subst hk; exact HW1.out))))
    have D8 := Lib.hid (show Prs (w7.setCell ⟨W1.heap.size, 4, none⟩ (.slice ao7 p.length cp7)) ao7 cp7 p from prs_only (H7.out.1.prs rfl) hO1 (fun _ b o sp e hb => by
      have h1 : ¬ b < (W1.alloc (.cells #[.bool true, .int .i64 k, .int .i64 la, .int .i64 lb, .slice pa p.length pc, .int .i64 st] 47)).heap.size := H7.out.1.av b (by rw [e]; rfl)
      simp only [World.size_alloc] at h1
      omega))
    have SEP := Lib.hid (show ∀ b o sp, ao7 = some ⟨b, o, sp⟩ → b < w7.heap.size ∧ ¬ (Q b ∨ b = W.heap.size ∨ b = W.heap.size + 1) ∧ (Value.slice ao n co).ownBlock ≠ some b from fun b o sp e => by
      have h1 : ¬ b < (W1.alloc (.cells #[.bool true, .int .i64 k, .int .i64 la, .int .i64 lb, .slice pa p.length pc, .int .i64 st] 47)).heap.size := H7.out.1.av b (by rw [e]; rfl)
      simp only [World.size_alloc] at h1
      have h2 := (H7.out.1.row.lt b (by rw [e]; rfl)).2
      have h3 := HW1.out
      refine ⟨h2, fun h => ?_, fun h => ?_⟩
      · rcases h with h | h | h
        · have := HH.out.2.2 b h; omega
        · omega
        · omega
      · have := HOWN.out b h; omega)
    have T8 := Lib.hid (T1.out.only O8.out (by have := HW1.out; show ¬ (_ ≤ _); omega))
    clear x4b f4b y0 y1 hO1
    have HW8 := Lib.hid (show w7.heap.size = (w7.setCell ⟨W1.heap.size, 4, none⟩ (.slice ao7 p.length cp7)).heap.size from by simp [World.setCell])
    have HG := Lib.hid hg7
    clear hg7 B8 HSRC e0 e1 e2 e3 e4 e5
    generalize (World.setCell w7 _ _ : World) = W8 at *
    have x0 := X8.out.at_ 0 _ rfl
    have x1 := X8.out.at_ 1 _ rfl
    have x2 := X8.out.at_ 2 _ rfl
    have x3 := X8.out.at_ 3 _ rfl
    have x4 := X8.out.at_ 4 _ rfl
    have x5 := X8.out.at_ 5 _ rfl
    have R9 := Lib.hid (R8.out.keep (al1 (.cells #[.bool true, .int .i64 k, .int .i64 la, .int .i64 lb, .slice ao7 p.length cp7, .int .i64 st] 47)))
    have D9 := Lib.hid (D8.out.below (al1 (.cells #[.bool true, .int .i64 k, .int .i64 la, .int .i64 lb, .slice ao7 p.length cp7, .int .i64 st] 47)))
    have B9 := Lib.hid (Bk.new W8 #[.bool true, .int .i64 k, .int .i64 la, .int .i64 lb, .slice ao7 p.length cp7, .int .i64 st] 47)
    have T9 := Lib.hid (T8.out.past (.cells #[.bool true, .int .i64 k, .int .i64 la, .int .i64 lb, .slice ao7 p.length cp7, .int .i64 st] 47))
    have X9 := Lib.hid (X8.out.past (.cells #[.bool true, .int .i64 k, .int .i64 la, .int .i64 lb, .slice ao7 p.length cp7, .int .i64 st] 47))
    have O9 := Lib.hid (O8.out.alloc (.cells #[.bool true, .int .i64 k, .int .i64 la, .int .i64 lb, .slice ao7 p.length cp7, .int .i64 st] 47))
    have HQ9 := Lib.hid (show ∀ j, (Q j ∨ j = W.heap.size ∨ j = W.heap.size + 1) → j < (W8.alloc (.cells #[.bool true, .int .i64 k, .int .i64 la, .int .i64 lb, .slice ao7 p.length cp7, .int .i64 st] 47)).heap.size from fun j hj => by
      have h1 := HG.out; have h2 := HW8.out; have h3 := HW1.out; simp only [World.size_alloc]
      rcases hj with h | h | h
      · have := HH.out.2.2 j h; omega
      · omega
      · omega)
    have HS9 := Lib.hid (show p ≠ [] → ∀ b o sp, ao7 = some ⟨b, o, sp⟩ → b < (W8.alloc (.cells #[.bool true, .int .i64 k, .int .i64 la, .int .i64 lb, .slice ao7 p.length cp7, .int .i64 st] 47)).heap.size ∧ ¬ (Q b ∨ b = W.heap.size ∨ b = W.heap.size + 1) ∧ (Value.slice ao n co).ownBlock ≠ some b from fun _ b o sp e => ⟨by
      have := (SEP.out b o sp e).1; have := HW8.out; simp only [World.size_alloc]; omega, (SEP.out b o sp e).2⟩)
    have HM9 := Lib.hid (show M.length ≤ 10000 by have := HH.out.1; have := HNL.out; omega)
    have HN9 := Lib.hid (show M.length + 1 = n + 1 by rw [HH.out.1])
    have HNQ := Lib.hid (show ¬ ((Value.slice ao n co).ownBlock = some W.heap.size) ∧ ¬ ((Value.slice ao n co).ownBlock = some W1.heap.size) from ⟨fun e => by have := HOWN.out _ e; omega, fun e => by have h1 := HOWN.out _ e; have h2 := HW1.out; omega⟩)
    go_upto_region 7 with (at_builtin; go_loud (refine wpList_pushnd rfl (.tmp 31) (.tmp 33) rfl (fun k => Q k ∨ k = W.heap.size ∨ k = W.heap.size + 1) _ M rfl R9.out HQ9.out ⟨⟨true, k, la, lb, p, st⟩, ao7, cp7⟩ D9.out HS9.out W8.heap.size rfl B9.out HM9.out (n + 1) HN9.out ?_); intro a4 c4 w4 hm4 hc4 hR4 hO4 hk4; have R4 := Lib.hid (And.intro hR4 (And.intro hO4 hk4)); have T4 := Lib.hid (T9.out.only hO4 HNQ.out.1); have X4 := Lib.hid (X9.out.only hO4 HNQ.out.2); clear hR4 hO4 hk4; unfold maxLen at hm4)
    have x0 := X4.out.at_ 0 _ rfl
    have U4 := Lib.hid (show Only (fun k => (Value.slice ao n co).ownBlock = some k) W w4 from (O1.out.trans ((O9.out.mono (T := fun k => W.heap.size ≤ k) (fun k hk _ => by have : W1.heap.size ≤ k := hk; have := HW1.out; omega))) (fun k hk hk2 => absurd hk2 (by have : W.heap.size ≤ k := hk; omega))).trans R4.out.2.1 (fun k hk _ => hk))
    have K4 := Lib.hid (show ∀ k, (Value.slice a4 (n + 1) c4).ownBlock = some k → (Value.slice ao n co).ownBlock = some k ∨ W.heap.size ≤ k from fun k hk => (R4.out.2.2 k hk).imp id (fun h => by have h1 := HW8.out; have h2 := HG.out; have h3 := HW1.out; simp only [World.size_alloc] at h; omega))
    clear R8 D8 SEP T8 X8 O8 HQ9 HS9 HM9 HN9 R9 D9 B9 T9 X9 O9 H7 HLL HEE
    have x2 := X4.out.at_ 2 _ rfl
    have y0 := T4.out.at_ 0 _ rfl
    have y1 := T4.out.at_ 1 _ rfl
    have B4 := Lib.hid (show Below w0.heap.size w0 w4 from HB.out.trans (U4.out.below (B := w0.heap.size) (fun k hk => HRO.out k hk) HB.out.size))
    have HQA := Lib.hid (show ∀ k, k < w0.heap.size → (Q k ∨ k = W.heap.size ∨ k = W.heap.size + 1) from fun k hk => .inl (HH.out.2.1 k hk))
    have HQB := Lib.hid (show ∀ k, (Q k ∨ k = W.heap.size ∨ k = W.heap.size + 1) → k < w4.heap.size from fun k hk => by
      have h1 := T4.out.lt; have h2 := X4.out.lt; have h3 := HW1.out
      rcases hk with h | h | h
      · have := HH.out.2.2 k h; omega
      · omega
      · omega)
    have ciL := HC.out.1 w4 (fun k => Q k ∨ k = W.heap.size ∨ k = W.heap.size + 1) a4 (n + 1) c4 (M ++ [⟨⟨true, k, la, lb, p, st⟩, ao7, cp7⟩]) la (by have := HH.out.1; simp; omega) HC.out.2.2.1 (by have := HNL.out; omega) B4.out R4.out.1 HQA.out HQB.out
    unfold CiIs trv at ciL
    rw [HNL.out.1] at ciL
    go_upto_region 10 with (go_at_call 40; ((with_reducible refine ciL.mono ?_); clear ciL x0 x2 y0 y1; rintro e w5 ⟨a5, c5, M5, rfl, hM5, hL5, hR5, hO5, hk5⟩; have R5 := Lib.hid (And.intro hM5 (And.intro hL5 (And.intro hR5 (And.intro hO5 hk5)))); have T5 := Lib.hid (T4.out.only hO5 (fun e => R4.out.1.own _ e (.inr (.inl rfl)))); have X5 := Lib.hid (X4.out.only hO5 (fun e => R4.out.1.own _ e (.inr (.inr HW1.out)))); clear hM5 hL5 hR5 hO5 hk5))
    have x3 := X5.out.at_ 3 _ rfl
    have y0 := T5.out.at_ 0 _ rfl
    have y1 := T5.out.at_ 1 _ rfl
    have B5 := Lib.hid (show Below w0.heap.size w0 w5 from B4.out.trans (R5.out.2.2.2.1.below (B := w0.heap.size) (fun k hk => Nat.le_of_not_lt (fun h => R4.out.1.own k hk (HQA.out k h))) B4.out.size))
    have ciR := HC.out.2.1 w5 (fun k => Q k ∨ k = W.heap.size ∨ k = W.heap.size + 1) a5 (n + 1 + ll) c5 M5 lb R5.out.2.1 HC.out.2.2.2 (by have := HNL.out; omega) B5.out R5.out.2.2.1 HQA.out (fun k hk => Nat.lt_of_lt_of_le (HQB.out k hk) R5.out.2.2.2.1.size)
    unfold CiIs trv at ciR
    rw [HNL.out.2.1] at ciR
    go_upto_region 11 with (go_at_call 40; ((with_reducible refine ciR.mono ?_); clear ciR x3 y0 y1; rintro e w6 ⟨a6, c6, M6, rfl, hM6, hL6, hR6, hO6, hk6⟩; have R6 := Lib.hid (And.intro hM6 (And.intro hL6 (And.intro hR6 (And.intro hO6 hk6)))); clear hM6 hL6 hR6 hO6 hk6))
    obtain ⟨m6, hm6⟩ : ∃ m6, M6[n]? = some m6 := ⟨_, List.getElem?_eq_getElem (by have := R6.out.2.1; omega)⟩
    obtain ⟨g6, rfl, -, hna6, hfz⟩ := R6.out.2.2.1.at hm6
    have z2 := hna6.c2
    have z3 := hna6.c3
    have HM6 := Lib.hid hm6
    clear hna6 hm6
    have hn0 : (0 : Int) ≤ (n : Int) := by omega
    have hn1 : (n : Int) < ((n + 1 + ll + rr : Nat) : Int) := by omega
    have hn2 : n < n + 1 + ll + rr := by omega
    have hn3 : (n : Int) < (n : Int) + 1 + ll + rr := by omega
    obtain ⟨_, _, ez, hcp1, hcp2⟩ := R6.out.2.2.1.form
    injection ez with ez1 ez2 ez3
    subst ez3
    rw [R6.out.2.1] at hcp1
    unfold maxLen at hcp2
    clear ez1 ez2
    go_wp2_with (fail)
    have hz9 := HZ.out.1
    have ep := HZ.out.2
    have FIN := ci_rt_fin (N := N) (i := i) (m := ⟨⟨true, k, la, lb, p, st⟩, ao7, cp7⟩) (by rw [ep.1, ep.2]) (by rw [← ep.1, ← ep.2]; exact hz9) HH.out.1 HNL.out.1 HNL.out.2.1 (fun k hk => .inl hk) U4.out K4.out R5.out.1 R5.out.2.2.2.1 R5.out.2.2.2.2 R6.out.1 R6.out.2.2.1 R6.out.2.2.2.1 R6.out.2.2.2.2 HM6.out (x := (n : Int) + 1) (y := (n : Int) + 1 + (ll : Int)) (by omega) (by omega)
    exact bodyPost_ret (v := .tuple #[.slice (some ⟨g6, 0, none⟩) (n + 1 + ll + rr) c6, .int .i64 (n : Int)]) (by simp [results, Try.results40, go_sem]) rfl FIN
theorem nd_eta {N : List Nd} {i : Nat} (h : i < N.length) : N[i]? = some ⟨(nd N i).r, (nd N i).k, (nd N i).a, (nd N i).b, (nd N i).p, (nd N i).s⟩ := nd_get h
theorem ci_any {w0 : World} {t0 : Int} {a : Option Addr} {cap : Nat} {N : List Nd} (hN : Ns w0 a cap N) (hsm : Small N) (x o : Int) : ∀ F, CiOk w0 t0 a cap N x o F := by
  intro F
  induction F with
  | lf i =>
    intro W Q ao n co M t hML hC hle hb hR hQ0 hQ1
    obtain ⟨hi, hil, hr⟩ := hC
    have hz := nd_eta hil
    rw [hr] at hz
    exact ci_lf hN hsm hML hb hR hQ0 hQ1 hi hz hle
  | rt i l r ihl ihr =>
    intro W Q ao n co M t hML hC hle hb hR hQ0 hQ1
    obtain ⟨hi, hil, hr, hp, hs, hcl, hcr⟩ := hC
    have hz := nd_eta hil
    rw [hr] at hz
    exact ci_rt hN hsm hML hb hR hQ0 hQ1 hi hz hp hs rfl rfl (by simp [Sh.pre] at hle; omega) ⟨ihl, ihr, hcl, hcr⟩
#print axioms ci_any
end Go.Proofs.Yteebceecohhegaa
