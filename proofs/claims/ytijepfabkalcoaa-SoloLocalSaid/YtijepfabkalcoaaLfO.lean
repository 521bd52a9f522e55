/- Parameters api.Op, []api.Op, api.Ans. No condition: definitions and lemmas. How long the pairs of a parameter may be: the form's own reach. No condition: lemmas. leaf.SameAns and osierref1.SameAns on any two answers. No condition: lemmas. Plain mathematics of a leaf: an operation done twice, what each key has behind it. No condition: lemmas. -/
import Derived.Test.YtijepfabkalcoaaLfM
import Derived.SizedLaws
import Derived.Test.YtijepfabkalcoaaBlZ
import Derived.Test.YtijepfabkalcoaaLfF
namespace Go.Proofs.Ytijepfabkalcoaa
open Go.RowKit Go.Deep Go.ChangeShapes Go.WideShapes
set_option linter.all false
set_option maxRecDepth 20000

structure OpD where
  c : Int
  k : Int
  h : Int
  v : Int
instance opInh : Inhabited OpD := ⟨⟨0, 0, 0, 0⟩⟩
def OpD.wf (d : OpD) : Prop := (Lit.int .i64 d.c).wf = true ∧ (Lit.int .i64 d.k).wf = true ∧ (Lit.int .i64 d.h).wf = true ∧ (Lit.int .i64 d.v).wf = true
/-- A slice of operations that can be read. -/
def Ops (w : World) (a : Option Addr) (cap : Nat) (l : List OpD) : Prop :=
  l.length ≤ cap ∧ cap ≤ maxLen ∧ (∀ n q, l[n]? = some q → ∃ b o, a = some ⟨b, o, none⟩ ∧ w.cell? ⟨b, o + n * 4, none⟩ = some (.int .i64 q.c) ∧ w.cell? ⟨b, o + n * 4 + 1, none⟩ = some (.int .i64 q.k) ∧ w.cell? ⟨b, o + n * 4 + 2, none⟩ = some (.int .i64 q.h) ∧ w.cell? ⟨b, o + n * 4 + 3, none⟩ = some (.int .i64 q.v)) ∧ (∀ q ∈ l, q.wf)
theorem Ops.below {w w' : World} {a : Option Addr} {cap : Nat} {l : List OpD} (h : Ops w a cap l) (hb : Below w.heap.size w w') : Ops w' a cap l :=
  ⟨h.1, h.2.1, fun n q hq => by
    obtain ⟨b, o, rfl, h0, h1, h2, h3⟩ := h.2.2.1 n q hq
    have go : ∀ {q : Addr} {v : Value}, w.cell? q = some v → w'.cell? q = some v := fun hc => (hb.cell (World.block_lt_of_cell? w _ hc)).trans hc
    exact ⟨b, o, rfl, go h0, go h1, go h2, go h3⟩, h.2.2.2⟩
theorem Ops.nil (w : World) : Ops w none 0 [] := ⟨Nat.le_refl _, Nat.zero_le _, fun n q hq => by simp at hq, fun q hq => by cases hq⟩

section
variable {H : Type} {enc : TypeId × Value → H} {w : World} {fuel : Nat} {x : DataW H × List MemPlace}

theorem fields_op {cs : List Value} (h : DataW.trod enc Try.prog w 0 (fun _ => true) true fuel 28 cs = some x) :
    ∃ d : OpD, cs = [.int .i64 d.c, .int .i64 d.k, .int .i64 d.h, .int .i64 d.v] ∧ d.wf := by
  obtain ⟨ys, n, _, _, hlen, hyl, hf⟩ := DataW.trod_struct Try.underlying28 h
  have hone : Try.prog.cellsOf 3 = 1 := by kernel_rfl
  have h4 : Try.prog.cellsOf 28 = 4 := by kernel_rfl
  rw [h4] at hlen
  have some_of : ∀ i, i < 4 → ∃ y, ys[i]? = some y := fun i hi => ⟨_, List.getElem?_eq_getElem (by rw [hyl]; exact hi)⟩
  match cs, hlen with
  | [v0, v1, v2, v3], _ =>
    obtain ⟨y0, e0⟩ := some_of 0 (by decide)
    obtain ⟨y1, e1⟩ := some_of 1 (by decide)
    obtain ⟨y2, e2⟩ := some_of 2 (by decide)
    obtain ⟨y3, e3⟩ := some_of 3 (by decide)
    have g0 : DataW.trod enc Try.prog w 0 (fun _ => true) true n 3 (([v0, v1, v2, v3].drop 0).take (Try.prog.cellsOf 3)) = ys[0]? := hf 0 _ rfl
    have g1 : DataW.trod enc Try.prog w 0 (fun _ => true) true n 3 (([v0, v1, v2, v3].drop 1).take (Try.prog.cellsOf 3)) = ys[1]? := hf 1 _ rfl
    have g2 : DataW.trod enc Try.prog w 0 (fun _ => true) true n 3 (([v0, v1, v2, v3].drop 2).take (Try.prog.cellsOf 3)) = ys[2]? := hf 2 _ rfl
    have g3 : DataW.trod enc Try.prog w 0 (fun _ => true) true n 3 (([v0, v1, v2, v3].drop 3).take (Try.prog.cellsOf 3)) = ys[3]? := hf 3 _ rfl
    rw [hone] at g0 g1 g2 g3
    rw [e0] at g0; rw [e1] at g1; rw [e2] at g2; rw [e3] at g3
    obtain ⟨n0, a0, _, b0⟩ := DataW.trod_int Try.underlying3 g0
    obtain ⟨n1, a1, _, b1⟩ := DataW.trod_int Try.underlying3 g1
    obtain ⟨n2, a2, _, b2⟩ := DataW.trod_int Try.underlying3 g2
    obtain ⟨n3, a3, _, b3⟩ := DataW.trod_int Try.underlying3 g3
    simp at a0 a1 a2 a3
    subst a0; subst a1; subst a2; subst a3
    exact ⟨⟨n0, n1, n2, n3⟩, rfl, b0, b1, b2, b3⟩

end
end Go.Proofs.Ytijepfabkalcoaa

namespace Go.Proofs.Ytijepfabkalcoaa
open Go.RowKit Go.Deep Go.ChangeShapes Go.WideShapes
set_option linter.all false
set_option maxRecDepth 20000

section
variable {H : Type} {enc : TypeId × Value → H} {w : World} {fuel : Nat} {x : DataW H × List MemPlace}
end

end Go.Proofs.Ytijepfabkalcoaa

namespace Go.Proofs.Ytijepfabkalcoaa
open Go.RowKit
set_option linter.all false

/-- Alike in all. -/
def AdEq (d e : Ad) : Prop := d.err = e.err ∧ d.ok = e.ok ∧ (d.k = e.k ∧ d.v = e.v) ∧ d.n = e.n ∧ d.ps = e.ps
instance adEqDec (d e : Ad) : Decidable (AdEq d e) := by unfold AdEq; infer_instance
theorem AdEq.refl (d : Ad) : AdEq d d := ⟨rfl, rfl, ⟨rfl, rfl⟩, rfl, rfl⟩

end Go.Proofs.Ytijepfabkalcoaa

namespace Go.Proofs.Ytijepfabkalcoaa
open Go.RowKit
set_option linter.all false

theorem Srt.one {l : List Pr} (h : Srt l) {a b : Pr} (ha : a ∈ l) (hb : b ∈ l) (e : a.1 = b.1) : a = b := by
  obtain ⟨i, hi⟩ := List.getElem?_of_mem ha
  obtain ⟨j, hj⟩ := List.getElem?_of_mem hb
  rcases Nat.lt_trichotomy i j with h1 | h1 | h1
  · have := h.at i j a b h1 hi hj; omega
  · subst h1; rw [hi] at hj; exact Option.some.inj hj
  · have := h.at j i b a h1 hj hi; omega
theorem hadL_mem {l : List Pr} (h : Srt l) {k v : Int} (hm : (k, v) ∈ l) : hadL l k = (true, k, v) := by
  cases hf : l.find? (fun z => z.1 == k) with
  | none =>
    have := List.find?_eq_none.1 hf _ hm
    simp at this
  | some q =>
    have h1 : q.1 = k := by simpa using List.find?_some hf
    have h2 := h.one (List.mem_of_find?_eq_some hf) hm h1
    unfold hadL
    rw [hf, h2]
theorem hadL_not {l : List Pr} {k : Int} (hm : ∀ z ∈ l, z.1 ≠ k) : hadL l k = (false, 0, 0) := by
  have hf : l.find? (fun z => z.1 == k) = none := List.find?_eq_none.2 (fun z hz => by simpa using hm z hz)
  unfold hadL
  rw [hf]
theorem hadL_some {l : List Pr} {k : Int} (h : (hadL l k).1 = true) : ∃ v, (k, v) ∈ l ∧ hadL l k = (true, k, v) := by
  unfold hadL at h ⊢
  cases hf : l.find? (fun z => z.1 == k) with
  | none => rw [hf] at h; cases h
  | some q =>
    have h1 : q.1 = k := by simpa using List.find?_some hf
    have h2 := List.mem_of_find?_eq_some hf
    obtain ⟨q0, q1⟩ := q
    dsimp only at h1
    subst h1
    exact ⟨q1, h2, rfl⟩
theorem hadL_none {l : List Pr} {k : Int} (h : (hadL l k).1 = false) : ∀ z ∈ l, z.1 ≠ k := by
  intro z hz e
  unfold hadL at h
  cases hf : l.find? (fun z => z.1 == k) with
  | none =>
    have := List.find?_eq_none.1 hf z hz
    simp [e] at this
  | some q => rw [hf] at h; cases h
theorem withL_has (l : List Pr) (h : Srt l) (k v : Int) : (k, v) ∈ withL l k v := by
  rw [withL_srt l k v h]; simp
theorem withL_in {l : List Pr} (h : Srt l) {k v : Int} {z : Pr} : z ∈ withL l k v ↔ z = (k, v) ∨ (z ∈ l ∧ z.1 ≠ k) := by
  rw [withL_srt l k v h]
  simp only [List.mem_append, List.mem_filter, List.mem_singleton, decide_eq_true_eq]
  constructor
  · rintro ((⟨h1, h2⟩ | h1) | ⟨h1, h2⟩)
    · exact .inr ⟨h1, by omega⟩
    · exact .inl h1
    · exact .inr ⟨h1, by omega⟩
  · rintro (h1 | ⟨h1, h2⟩)
    · exact .inl (.inr h1)
    · rcases Int.lt_or_lt_of_ne h2 with h3 | h3
      · exact .inl (.inl ⟨h1, h3⟩)
      · exact .inr ⟨h1, h3⟩
section
variable {l : List Pr} {c : Int} (hs : Srt l) (ho : okOp c) (k v : Int)
include hs ho
theorem doP_srt : Srt (doP l c k v) := by
  unfold doP
  split
  · exact hs
  split
  · exact withL_is_srt l k v hs
  split
  · split
    · exact hs
    · exact withL_is_srt l k v hs
  split
  · exact cutL_srt hs k
  · exact hs
theorem withL_len : (withL l k v).length ≤ l.length + 1 := by
  have e := with_at hs (lo_pl hs k) v
  have h1 := bh_ge (plN l k) (hasB l k (plN l k))
  have h2 := (lo_pl hs k).le
  rw [← e]
  simp only [List.length_append, List.length_take, List.length_drop, List.length_singleton]
  omega
theorem doP_len : (doP l c k v).length ≤ l.length + 1 := by
  have h1 := withL_len hs ho k v
  have h2 := cutL_len l k
  unfold doP
  split
  · omega
  split
  · exact h1
  split
  · split
    · omega
    · exact h1
  split
  · omega
  · omega
/-- What the key has behind an update. -/
theorem had_doP (h3 : c ≤ 3) : hadL (doP l c k v) k = (if c = 3 then (false, 0, 0) else if c = 2 then (if (hadL l k).1 = true then hadL l k else (true, k, v)) else (true, k, v)) := by
  by_cases e3 : c = 3
  · rw [doP_cut hs ho k v e3, if_pos e3]
    exact hadL_not (fun z hz => (cutL_mem.1 hz).2)
  rw [if_neg e3]
  by_cases e2 : c = 2
  · rw [doP_add hs ho k v e2, if_pos e2]
    split
    · rfl
    · exact hadL_mem (withL_is_srt l k v hs) (withL_has l hs k v)
  · rw [doP_put hs ho k v (by have := ho.1; omega), if_neg e2]
    exact hadL_mem (withL_is_srt l k v hs) (withL_has l hs k v)
end
end Go.Proofs.Ytijepfabkalcoaa
