/- A map of the leaves that a call touches. No condition: definitions and lemmas. -/
import Derived.Test.YtijepfabkalcoaaSlK
import Derived.Test.YtijepfabkalcoaaSlU
import Derived.Maps.OwnSet
namespace Go.Proofs.Ytijepfabkalcoaa
open Go.RowKit Go.Maps
set_option linter.all false

theorem mI_under : Try.prog.underlying 36 = some (.map 3 3) := by kernel_rfl
theorem int_under : Try.prog.underlying 3 = some (.int .i64) := by kernel_rfl
theorem zeroH (w : World) : (zeroValue 3).run Try.prog w = .ok (.int .i64 0) w := by kernel_rfl
theorem lawI : Keyed Try.prog 3 := int_keyed int_under
abbrev DW := DataW Unit
def i64 (c : Int) : DW := .lit (.int .i64 c)
theorem i64_inj {a b : Int} (h : i64 a = i64 b) : a = b := by unfold i64 at h; injection h with h; injection h
def OwnI (W : World) (b n : Nat) (D : DW) : Prop := W.ownsMap Try.prog 3 (plainElem Try.prog 3) b n D
theorem OwnI.lt {W : World} {b n : Nat} {D : DW} (h : OwnI W b n D) : b < W.heap.size := World.ownsMap.lt h
theorem OwnI.only {W W' : World} {b n : Nat} {D : DW} {S : Nat → Prop} (h : OwnI W b n D) (o : Only S W W') (hS : ¬ S b) : OwnI W' b n D := by
  have hlt : b < W.heap.size := World.ownsMap.lt h
  obtain ⟨es, clock, hb, F, hs, hD⟩ := h
  exact ⟨es, clock, (o.block b hlt hS).trans hb, F, hs, hD⟩
theorem OwnI.keep {W W' : World} {b n : Nat} {D : DW} (h : OwnI W b n D) (hb : Below W.heap.size W W') : OwnI W' b n D := h.only (S := fun _ => False) (Only.ofBelow hb) (fun h => h)
/-- The map says of these leaves that they are hit. -/
structure HI (D : DW) (ls : List Nat) : Prop where
  at_ : ∀ k : Nat, D.atKey (.int .i64 (k : Int)) (i64 0) = i64 (if k ∈ ls then 1 else 0)
  tidy : Tidy D
set_option maxRecDepth 20000 in
theorem wf_nat {k : Nat} (hk : (k : Int) ≤ 9223372036854775807) : (Lit.int .i64 (k : Int)).wf = true := by
  simp [Lit.wf, IntKind.min, IntKind.max, IntKind.signed, IntKind.bits]; omega
theorem keyI (t : Int) : WideAt.IsKeyLit (.int .i64 t) := by trivial
theorem HI.nil : HI (.map []) [] := ⟨fun k => rfl, ⟨[], rfl, List.Pairwise.nil⟩⟩
theorem HI.snoc {D : DW} {ls : List Nat} (h : HI D ls) (i : Nat) : HI (D.put (.int .i64 (i : Int)) (i64 1)) (ls ++ [i]) := by
  refine ⟨fun k => ?_, h.tidy.put (keyI _) _⟩
  by_cases e : k = i
  · subst e
    rw [atKey_put_same h.tidy.isMap (keyI _) _ _, if_pos (by simp)]
  · rw [atKey_put_other (fun x => e (by injection x with _ x; omega)), h.at_ k]
    have : (k ∈ ls ++ [i]) ↔ k ∈ ls := by simp [e]
    by_cases hk : k ∈ ls
    · rw [if_pos hk, if_pos (this.2 hk)]
    · rw [if_neg hk, if_neg (fun x => hk (this.1 x))]
theorem HI.run {W : World} {b n : Nat} {D : DW} {ls : List Nat} (h : HI D ls) (ho : OwnI W b n D) (k : Nat) (hk : (k : Int) ≤ 9223372036854775807) {c : Int} (hc : (if k ∈ ls then (1 : Int) else 0) = c) : (Instr.lookup 36 (.map (some b)) (.int .i64 (k : Int)) false).run Try.prog W = .ok (.int .i64 c) W := by
  obtain ⟨c', hrun, hat, _⟩ := World.ownsMap.lookup_int ho lawI mI_under int_under (zeroH W) (keyOf_int_mk int_under (wf_nat hk))
  have : i64 c' = i64 c := hat.symm.trans ((h.at_ k).trans (congrArg i64 hc))
  rw [i64_inj this] at hrun
  exact hrun
/-- A tree in its box, a policy, an operation. -/
structure L0 (w : World) (t : Int) (a : Option Addr) (n cap : Nat) (h l cc u m c k hi v : Int) (W : World) : Prop where
  q : Tq W w.heap.size t a n cap
  p : Bk W (w.heap.size + 1) [.int .i64 h, .int .i64 l, .int .i64 cc, .int .i64 u, .int .i64 m]
  o : Bk W (w.heap.size + 1 + 1) [.int .i64 c, .int .i64 k, .int .i64 hi, .int .i64 v]
  b : Below w.heap.size w W
theorem L0.keep {w : World} {t : Int} {a : Option Addr} {n cap : Nat} {h l cc u m c k hi v : Int} {W W' : World} (H : L0 w t a n cap h l cc u m c k hi v W) (hb : Below W.heap.size W W') : L0 w t a n cap h l cc u m c k hi v W' := ⟨H.q.keep hb, H.p.keep hb, H.o.keep hb, bel2 H.b hb⟩
theorem L0.new (w : World) (t : Int) (a : Option Addr) (n cap : Nat) (h l cc u m c k hi v : Int) : L0 w t a n cap h l cc u m c k hi v (((w.alloc (.cells #[.int .i64 t, .slice a n cap] 24)).alloc (.cells #[.int .i64 h, .int .i64 l, .int .i64 cc, .int .i64 u, .int .i64 m] 26)).alloc (.cells #[.int .i64 c, .int .i64 k, .int .i64 hi, .int .i64 v] 28)) :=
  have H := OB.new w t a n cap h l cc u m c k hi v
  ⟨((Tq.new w t a n cap).keep (al1 _)).keep (al1 _), H.p, H.o, H.b⟩
theorem L0.put {w : World} {t : Int} {a : Option Addr} {n cap : Nat} {h l cc u m c k hi v : Int} {W : World} (H : L0 w t a n cap h l cc u m c k hi v W) (t' : Int) (a' : Option Addr) (n' cap' : Nat) :
    L0 w t' a' n' cap' h l cc u m c k hi v ((W.setCell ⟨w.heap.size, 0, none⟩ (.int .i64 t')).setCell ⟨w.heap.size, 1, none⟩ (.slice a' n' cap')) :=
  ⟨tq_rt H.q _ _ _ _, (H.p.other _ (by omega)).other _ (by omega), (H.o.other _ (by omega)).other _ (by omega), ret_below H.b (Nat.le_refl _) _ _⟩
theorem ri_only {W W' : World} {S : Nat → Prop} {a : Option Addr} {cap : Nat} {l : List Int} (h : RI W a cap l) (ho : Only S W W') (hS : ∀ b o sp, a = some ⟨b, o, sp⟩ → ¬ S b) : RI W' a cap l :=
  ⟨h.1, h.2.1, fun n v hv => by
    obtain ⟨b, o, e, hc⟩ := h.2.2 n v hv
    exact ⟨b, o, e, ho.cell hc (hS b o none e)⟩⟩
theorem Only.grownBy {W W' : World} {b : Nat} (h : W.grownBy W' (some b)) : Only (fun j => j = b) W W' := (Only.refl _ _).grown h (fun k hk _ => by cases hk; rfl)
theorem tchO_mem {N : List Nd} {s : Sh} {c k hi : Int} {i : Nat} (h : i ∈ tchO N s c k hi) : i ∈ s.lvs := by
  unfold tchO tchd at h
  split at h
  · split at h
    · rw [List.mem_singleton] at h
      rw [h]
      exact dn_lvs N k s
    · split at h
      · exact tchL_mem i h
      · cases h
  · cases h
theorem wf_one : (Lit.int .i64 (1 : Int)).wf = true := rfl
theorem tchL_len {f t : Nat} : ∀ {l : List Nat} {b : Bool}, (tchL f t b l).length ≤ l.length := by
  intro l
  induction l with
  | nil => intro b; simp [tchL]
  | cons x l ih =>
    intro b
    have h := @ih (b || x == f)
    have e : tchL f t b (x :: l) = (if (b || x == f) = true then [x] else []) ++ (if x = t then [] else tchL f t (b || x == f) l) := rfl
    rw [e, List.length_append, List.length_cons]
    have h1 : (if (b || x == f) = true then [x] else []).length ≤ 1 := by split <;> simp
    have h2 : (if x = t then [] else tchL f t (b || x == f) l).length ≤ l.length := by
      split
      · simp
      · exact h
    omega
theorem tchO_len {N : List Nd} {s : Sh} {t : Int} (h : Tr N s t) {c k hi : Int} : (tchO N s c k hi).length ≤ 2000 := by
  have h1 := lvs_pos s
  have h2 : s.lvs.length ≤ 2000 := by have := lvs_len s; have := h.all; have := h.le; omega
  unfold tchO tchd
  repeat' split
  · simp
  · exact Nat.le_trans tchL_len h2
  · simp
  · simp
/-- Who is not hit stands among what is left, one after the other. -/
theorem loc_sub {P : List Nd} {s' : Sh} (hT : Tr P s' 0 ∧ lay P s' 0 = P) {o : OpD} (ho : okOp o.c) {h l cc u m : Int} {Q : List Nd} (hD : DoS P s' h l cc u m o Q) {s2 : Sh} (h2 : Tr Q s2 0) (hl : s'.lvs.length ≤ s2.lvs.length) :
    ((s'.lvs.filter (fun j => decide (j ∉ tchO P s' o.c o.k o.h))).map (pst P)).Sublist (s2.lvs.map (pst Q)) := by
  rcases doS_at hT.1 hT.2 hD with ⟨_, hd⟩ | ⟨hn, _⟩
  · have h := doT_local hT.1 ho hd h2 hl
    have e : tchO P s' o.c o.k o.h = tchd P s' o.c o.k o.h := by unfold tchO; rw [if_pos ho]
    rw [e]
    exact h
  · exact absurd ho hn
theorem drop_at {α : Type} {l : List α} {i : Nat} {x : α} (h : l[i]? = some x) : l.drop i = x :: l.drop (i + 1) := by
  obtain ⟨hl, rfl⟩ := List.getElem?_eq_some_iff.1 h
  exact List.drop_eq_getElem_cons hl
end Go.Proofs.Ytijepfabkalcoaa

