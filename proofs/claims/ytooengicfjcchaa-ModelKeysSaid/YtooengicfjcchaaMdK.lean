/- Operations of unlike keys go by one another; two maps side by side. No condition: lemmas. -/
import Derived.Test.YtooengicfjcchaaMdL
namespace Go.Proofs.Ytooengicfjcchaa
open Go.RowKit Go.Sort
set_option linter.all false

theorem had_iff {L : List Pr} (h : Srt L) (z : Pr) : z ∈ L ↔ hadL L z.1 = (true, z.1, z.2) := by
  constructor
  · intro hz; exact hadL_mem h (v := z.2) hz
  · intro e
    obtain ⟨v, hv, e2⟩ := hadL_some (l := L) (k := z.1) (by rw [e])
    rw [e] at e2
    have : z.2 = v := by simpa using e2
    rw [← this] at hv
    exact hv
theorem had_ext {A B : List Pr} (ha : Srt A) (hb : Srt B) (k : Int) (h : ∀ z : Pr, z.1 = k → (z ∈ A ↔ z ∈ B)) : hadL A k = hadL B k := by
  cases ea : (hadL A k).1 with
  | true =>
    obtain ⟨v, hv, e⟩ := hadL_some ea
    rw [e, hadL_mem hb ((h (k, v) rfl).1 hv)]
  | false =>
    have h0 := hadL_none ea
    have e1 : hadL A k = (false, 0, 0) := hadL_not h0
    have e2 : hadL B k = (false, 0, 0) := hadL_not (fun z hz e => h0 z ((h z e).2 hz) e)
    rw [e1, e2]
theorem doP_off {L : List Pr} (h : Srt L) {c k v : Int} (ho : okOp c) {z : Pr} (hz : z.1 ≠ k) : z ∈ doP L c k v ↔ z ∈ L := by
  have hw : z ∈ withL L k v ↔ z ∈ L := by
    rw [withL_in h]
    constructor
    · rintro (e | e)
      · exact absurd (by rw [e]) hz
      · exact e.1
    · intro e; exact .inr ⟨e, hz⟩
  by_cases h1 : c = 1
  · rw [doP_put h ho k v h1]; exact hw
  by_cases h2 : c = 2
  · rw [doP_add h ho k v h2]
    split
    · exact Iff.rfl
    · exact hw
  by_cases h3 : c = 3
  · rw [doP_cut h ho k v h3, cutL_mem]
    exact ⟨fun e => e.1, fun e => ⟨e, hz⟩⟩
  · rw [doP_read h ho k v (by have := ho.1; omega)]
theorem doP_had {L M : List Pr} (h : Srt L) (hm : Srt M) {c k v : Int} (ho : okOp c) (e : hadL L k = hadL M k) : hadL (doP L c k v) k = hadL (doP M c k v) k := by
  by_cases h3 : c ≤ 3
  · rw [had_doP h ho k v h3, had_doP hm ho k v h3, e]
  · rw [doP_read h ho k v (by omega), doP_read hm ho k v (by omega), e]
theorem doP_same {L M : List Pr} (h : Srt L) (hm : Srt M) {c v : Int} (ho : okOp c) {z : Pr} (e : hadL L z.1 = hadL M z.1) : z ∈ doP L c z.1 v ↔ z ∈ doP M c z.1 v := by
  rw [had_iff (doP_s h c z.1 v), had_iff (doP_s hm c z.1 v), doP_had h hm ho e]
theorem had_by {L : List Pr} (h : Srt L) {c k v j : Int} (ho : okOp c) (hk : j ≠ k) : hadL (doP L c k v) j = hadL L j :=
  had_ext (doP_s h c k v) h j (fun z hz => doP_off h ho (by rw [hz]; exact hk))
/-- Two operations of unlike keys, in either order. -/
theorem doP_two {L : List Pr} (h : Srt L) {c k v c' k' v' : Int} (ho : okOp c) (ho' : okOp c') (hk : k ≠ k') : doP (doP L c k v) c' k' v' = doP (doP L c' k' v') c k v := by
  have h1 := doP_s h c k v
  have h2 := doP_s h c' k' v'
  refine srt_ext (doP_s h1 _ _ _) (doP_s h2 _ _ _) (fun z => ?_)
  by_cases e1 : z.1 = k
  · subst e1
    rw [doP_off h1 ho' hk]
    exact doP_same h h2 ho (had_by h ho' hk).symm
  · by_cases e2 : z.1 = k'
    · subst e2
      rw [doP_off h2 ho (fun e => hk e.symm)]
      exact (doP_same h h1 ho' (had_by h ho (fun e => hk e.symm)).symm).symm
    · rw [doP_off h1 ho' e2, doP_off h ho e1, doP_off h2 ho e1, doP_off h ho' e2]
theorem keys_P {L : List Pr} (h : Srt L) (a b : OpD) (ha : okOp a.c) (hb : okOp b.c) (hk : a.k ≠ b.k) : runP L [b, a] = runP L [a, b] := (doP_two h ha hb hk).symm
theorem keys_A {L : List Pr} (h : Srt L) (a b : OpD) (ha : okOp a.c) (hb : okOp b.c) (ha4 : a.c ≤ 4) (hb4 : b.c ≤ 4) (hk : a.k ≠ b.k) : runA L [a, b] = [hadD L a.k, hadD L b.k] ∧ runA L [b, a] = [hadD L b.k, hadD L a.k] := by
  constructor
  · show [doA L a.c a.k a.h, doA (doP L a.c a.k a.v) b.c b.k b.h] = _
    rw [doA_had h ha a.k a.h ha4, doA_had (doP_s h _ _ _) hb b.k b.h hb4]
    unfold hadD
    rw [had_by h ha (fun e => hk e.symm)]
  · show [doA L b.c b.k b.h, doA (doP L b.c b.k b.v) a.c a.k a.h] = _
    rw [doA_had h hb b.k b.h hb4, doA_had (doP_s h _ _ _) ha a.k a.h ha4]
    unfold hadD
    rw [had_by h hb hk]

theorem O4.only {x : Nat} {c k hi v : Int} {T : Nat → Prop} {W W' : World} (h : O4 x c k hi v W) (o : Only T W W') (hx : ¬ T x) : O4 x c k hi v W' := ⟨o.cell h.p0 hx, o.cell h.p1 hx, o.cell h.p2 hx, o.cell h.p3 hx⟩
/-- Two maps beside two operations in boxes. -/
structure KW (w : World) (b1 b2 : Nat) (a b : OpD) (L1 L2 : List Pr) (W : World) : Prop where
  m1 : MapAt W (fun j => j < w.heap.size + 1 + 1 ∨ j = b1 ∨ j = b2) b1 L1
  m2 : MapAt W (fun j => j < w.heap.size + 1 + 1 ∨ j = b1 ∨ j = b2) b2 L2
  oa : O4 w.heap.size a.c a.k a.h a.v W
  ob : O4 (w.heap.size + 1) b.c b.k b.h b.v W
  bw : Below w.heap.size w W
  l1 : w.heap.size + 1 < b1
  l2 : b1 < b2
section
variable {w W W' : World} {b1 b2 : Nat} {a b : OpD} {L1 L2 : List Pr}
theorem KW.below (h : KW w b1 b2 a b L1 L2 W) (hb : Below W.heap.size W W') : KW w b1 b2 a b L1 L2 W' := ⟨h.m1.below hb, h.m2.below hb, h.oa.keep hb, h.ob.keep hb, bel2 h.bw hb, h.l1, h.l2⟩
theorem KW.hS (h : KW w b1 b2 a b L1 L2 W) : ∀ j, (j < w.heap.size + 1 + 1 ∨ j = b1 ∨ j = b2) → j < W.heap.size := fun j hj => by
  have h1 := h.m1.lt
  have h2 := h.m2.lt
  have h3 := h.l1
  rcases hj with hj | hj | hj <;> omega
/-- The first map runs operations. -/
theorem KW.run1 (h : KW w b1 b2 a b L1 L2 W) (ad : Addr) (cap : Nat) (zs : List OpD) (hz : Ops W (some ad) cap zs) (hne : ¬ ad.block = b1) (hl : L1.length ≤ 100) (hn : zs.length ≤ 10) :
    Calls Try.prog 15 #[.pointer (some ⟨b1, 0, none⟩), .slice (some ad) zs.length cap] W fun e w' => e = .returned (.slice (some ⟨W.heap.size, 0, none⟩) zs.length zs.length) ∧ TR w' (fun j => j < W.heap.size ∨ j = W.heap.size) W.heap.size zs.length (runA L1 zs) ∧ KW w b1 b2 a b (runP L1 zs) L2 w' ∧ Only (fun k => k = b1) W w' :=
  (mrun_any b1 _ L1 (some ad) cap zs W h.m1 h.hS hz (fun ad' e => by cases e; exact hne) (by omega) (by omega)).mono (fun e w' hh => by
    obtain ⟨rfl, hT, hM, hO⟩ := hh
    have h1 := h.l1
    have h2 := h.l2
    exact ⟨rfl, hT, ⟨hM, h.m2.only hO (fun e => by omega) (fun k hk => .inr (.inl hk)), h.oa.only hO (fun e => by omega), h.ob.only hO (fun e => by omega), h.bw.trans (hO.below (fun i hi => by omega) h.bw.size), h1, h2⟩, hO⟩)
theorem KW.run2 (h : KW w b1 b2 a b L1 L2 W) (ad : Addr) (cap : Nat) (zs : List OpD) (hz : Ops W (some ad) cap zs) (hne : ¬ ad.block = b2) (hl : L2.length ≤ 100) (hn : zs.length ≤ 10) :
    Calls Try.prog 15 #[.pointer (some ⟨b2, 0, none⟩), .slice (some ad) zs.length cap] W fun e w' => e = .returned (.slice (some ⟨W.heap.size, 0, none⟩) zs.length zs.length) ∧ TR w' (fun j => j < W.heap.size ∨ j = W.heap.size) W.heap.size zs.length (runA L2 zs) ∧ KW w b1 b2 a b L1 (runP L2 zs) w' ∧ Only (fun k => k = b2) W w' :=
  (mrun_any b2 _ L2 (some ad) cap zs W h.m2 h.hS hz (fun ad' e => by cases e; exact hne) (by omega) (by omega)).mono (fun e w' hh => by
    obtain ⟨rfl, hT, hM, hO⟩ := hh
    have h1 := h.l1
    have h2 := h.l2
    exact ⟨rfl, hT, ⟨h.m1.only hO (fun e => by omega) (fun k hk => .inr (.inr hk)), hM, h.oa.only hO (fun e => by omega), h.ob.only hO (fun e => by omega), h.bw.trans (hO.below (fun i hi => by omega) h.bw.size), h1, h2⟩, hO⟩)
theorem KW.r1 (h : KW w b1 b2 a b L1 L2 W) (x cap : Nat) (o p : OpD) (hz : Ops W (some ⟨x, 0, none⟩) cap [o, p]) (hne : ¬ x = b1) (hl : L1.length ≤ 100) :
    Calls Try.prog 15 #[.pointer (some ⟨b1, 0, none⟩), .slice (some ⟨x, 0, none⟩) 2 cap] W fun e w' => e = .returned (.slice (some ⟨W.heap.size, 0, none⟩) 2 2) ∧ TR w' (fun j => j < W.heap.size ∨ j = W.heap.size) W.heap.size 2 (runA L1 [o, p]) ∧ KW w b1 b2 a b (runP L1 [o, p]) L2 w' ∧ Only (fun k => k = b1) W w' :=
  h.run1 ⟨x, 0, none⟩ cap [o, p] hz hne hl (by simp)
theorem KW.r2 (h : KW w b1 b2 a b L1 L2 W) (x cap : Nat) (o p : OpD) (hz : Ops W (some ⟨x, 0, none⟩) cap [o, p]) (hne : ¬ x = b2) (hl : L2.length ≤ 100) :
    Calls Try.prog 15 #[.pointer (some ⟨b2, 0, none⟩), .slice (some ⟨x, 0, none⟩) 2 cap] W fun e w' => e = .returned (.slice (some ⟨W.heap.size, 0, none⟩) 2 2) ∧ TR w' (fun j => j < W.heap.size ∨ j = W.heap.size) W.heap.size 2 (runA L2 [o, p]) ∧ KW w b1 b2 a b L1 (runP L2 [o, p]) w' ∧ Only (fun k => k = b2) W w' :=
  h.run2 ⟨x, 0, none⟩ cap [o, p] hz hne hl (by simp)
end
end Go.Proofs.Ytooengicfjcchaa
