/- The parameters of the laws on nodes: pairs, slices of pairs, slices of steps, slices of integers, as they lie in memory. -/
import Derived.Test.YtbmlpdkbiipcmaaNAwk
import Derived.Deep.Slices
import Derived.Deep.Fields
import Derived.ChangeArms
namespace Go.Proofs.Ytbmlpdkbiipcmaa
open Go.RowKit Go.Deep Go.ChangeShapes Go.WideShapes
set_option linter.all false

abbrev Pr := Int × Int

/-- A slice of pairs that can be read. -/
def Prs (w : World) (a : Option Addr) (cap : Nat) (l : List Pr) : Prop :=
  l.length ≤ cap ∧ cap ≤ maxLen ∧ ∀ n q, l[n]? = some q → ∃ b o, a = some ⟨b, o, none⟩ ∧ w.cell? ⟨b, o + n * 2, none⟩ = some (.int .i64 q.1) ∧ w.cell? ⟨b, o + n * 2 + 1, none⟩ = some (.int .i64 q.2)

theorem Prs.below {w w' : World} {a : Option Addr} {cap : Nat} {l : List Pr} (h : Prs w a cap l) (hb : Below w.heap.size w w') : Prs w' a cap l :=
  ⟨h.1, h.2.1, fun n q hq => by
    obtain ⟨b, o, rfl, h0, h1⟩ := h.2.2 n q hq
    exact ⟨b, o, rfl, (hb.cell (World.block_lt_of_cell? w _ h0)).trans h0, (hb.cell (World.block_lt_of_cell? w _ h1)).trans h1⟩⟩

/-- All keys and values are numbers of 64 bits. -/
def Rng (l : List Pr) : Prop := ∀ q ∈ l, (Lit.int .i64 q.1).wf = true ∧ (Lit.int .i64 q.2).wf = true
theorem wf_range {a : Int} (h : (Lit.int .i64 a).wf = true) : -9223372036854775808 ≤ a ∧ a ≤ 9223372036854775807 := by
  have e1 : IntKind.i64.min = -9223372036854775808 := by decide
  have e2 : IntKind.i64.max = 9223372036854775807 := by decide
  simp [Lit.wf] at h
  omega

/-- The values of a Call: a slice that can be read, whatever its address. -/
def Vals (w : World) (a : Option Addr) (cap : Nat) (vs : List Int) : Prop :=
  vs.length ≤ maxLen ∧ (a = none → vs = [] ∧ cap = 0) ∧ ∀ x, a = some x → ∀ n, n < vs.length → w.cell? (x.add n) = some (.int .i64 (vs.getD n 0))

theorem Vals.ints {w w' : World} {a : Option Addr} {cap : Nat} {vs : List Int} {F : Nat → Prop} (h : Vals w a cap vs) (hb : Below w.heap.size w w') (hF : ∀ b, b < w.heap.size → ¬ F b) : Ints F w' (.slice a vs.length cap) vs := by
  obtain ⟨h1, h2, h3⟩ := h
  cases a with
  | none => obtain ⟨rfl, rfl⟩ := h2 rfl; exact .inl ⟨rfl, rfl⟩
  | some x =>
    refine .inr ⟨x, cap, rfl, ?_, h1, fun j hj => ?_⟩
    · rcases Nat.eq_zero_or_pos vs.length with h | h
      · exact .inl (List.eq_nil_of_length_eq_zero h)
      · exact .inr (hF _ (by have := World.block_lt_of_cell? w _ (h3 x rfl 0 h); simpa [Addr.add] using this))
    · have := h3 x rfl j hj
      exact (hb.cell (World.block_lt_of_cell? w _ this)).trans this

/-- A step: a pair, two numbers, and whether they are raw. -/
structure StepD where
  k : Int
  v : Int
  l : Int
  r : Int
  raw : Bool
instance : Inhabited StepD := ⟨⟨0, 0, 0, 0, false⟩⟩

structure StepAt (w : World) (b o : Nat) (c : StepD) : Prop where
  c0 : w.cell? ⟨b, o, none⟩ = some (.int .i64 c.k)
  c1 : w.cell? ⟨b, o + 1, none⟩ = some (.int .i64 c.v)
  c2 : w.cell? ⟨b, o + 2, none⟩ = some (.int .i64 c.l)
  c3 : w.cell? ⟨b, o + 3, none⟩ = some (.int .i64 c.r)
  c4 : w.cell? ⟨b, o + 4, none⟩ = some (.bool c.raw)

def ArgSteps (w : World) (a : Option Addr) (len : Nat) (cs : List StepD) : Prop :=
  cs.length = len ∧ len ≤ maxLen ∧ ∀ n c, cs[n]? = some c → ∃ b o, a = some ⟨b, o, none⟩ ∧ StepAt w b (o + n * 5) c

theorem StepAt.below {w w' : World} {b o : Nat} {c : StepD} (h : StepAt w b o c) (hb : Below w.heap.size w w') : StepAt w' b o c := by
  have go : ∀ {q : Addr} {v : Value}, w.cell? q = some v → w'.cell? q = some v := fun hc => (hb.cell (World.block_lt_of_cell? w _ hc)).trans hc
  exact ⟨go h.c0, go h.c1, go h.c2, go h.c3, go h.c4⟩

section
variable {H : Type} {enc : TypeId × Value → H} {w : World} {fuel : Nat} {x : DataW H × List MemPlace}

theorem open_vals {v : Value} (h : DataW.trod enc Try.prog w 0 (fun _ => true) true fuel 61 [v] = some x) : ∃ a cap vs, v = .slice a vs.length cap ∧ Vals w a cap vs := by
  rcases open_ints Try.underlying61 Try.underlying3 (by kernel_rfl) h with ⟨hcs, _⟩ | ⟨y, l, c, zs, hcs, _, hl, hm, hz, _, hcell, hwz⟩
  · simp at hcs
    subst hcs
    exact ⟨none, 0, [], rfl, Nat.zero_le _, fun _ => ⟨rfl, rfl⟩, fun x hx => by cases hx⟩
  · simp at hcs hz
    subst hcs
    have hlen : (zs.take l).length = l := by simp; omega
    refine ⟨some y, c, zs.take l, by rw [hlen], by rw [hlen]; omega, (fun e => by cases e), fun x hx n hn => ?_⟩
    cases hx
    rw [hlen] at hn
    rw [hcell n (by omega)]
    simp [List.getD_eq_getElem?_getD, List.getElem?_take, hn]

theorem fields_pairw {cs : List Value} (h : DataW.trod enc Try.prog w 0 (fun _ => true) true fuel 24 cs = some x) :
    ∃ k v : Int, cs = [.int .i64 k, .int .i64 v] ∧ (Lit.int .i64 k).wf = true ∧ (Lit.int .i64 v).wf = true := by
  obtain ⟨ys, n, _, _, hlen, hyl, hf⟩ := DataW.trod_struct Try.underlying24 h
  have hone : Try.prog.cellsOf 3 = 1 := by kernel_rfl
  have h2 : Try.prog.cellsOf 24 = 2 := by kernel_rfl
  rw [h2] at hlen
  have some_of : ∀ i, i < 2 → ∃ y, ys[i]? = some y := fun i hi => ⟨_, List.getElem?_eq_getElem (by rw [hyl]; exact hi)⟩
  match cs, hlen with
  | [v0, v1], _ =>
    obtain ⟨y0, e0⟩ := some_of 0 (by decide)
    obtain ⟨y1, e1⟩ := some_of 1 (by decide)
    have g0 : DataW.trod enc Try.prog w 0 (fun _ => true) true n 3 (([v0, v1].drop 0).take (Try.prog.cellsOf 3)) = ys[0]? := hf 0 _ rfl
    have g1 : DataW.trod enc Try.prog w 0 (fun _ => true) true n 3 (([v0, v1].drop 1).take (Try.prog.cellsOf 3)) = ys[1]? := hf 1 _ rfl
    rw [hone] at g0 g1
    rw [e0] at g0; rw [e1] at g1
    obtain ⟨n0, a0, _, b0⟩ := DataW.trod_int Try.underlying3 g0
    obtain ⟨n1, a1, _, b1⟩ := DataW.trod_int Try.underlying3 g1
    simp at a0 a1
    subst a0; subst a1
    exact ⟨n0, n1, rfl, b0, b1⟩
theorem fields_pair {cs : List Value} (h : DataW.trod enc Try.prog w 0 (fun _ => true) true fuel 24 cs = some x) :
    ∃ k v : Int, cs = [.int .i64 k, .int .i64 v] := by
  obtain ⟨k, v, e, _⟩ := fields_pairw h
  exact ⟨k, v, e⟩

theorem open_pairsw {v : Value} (h : DataW.trod enc Try.prog w 0 (fun _ => true) true fuel 22 [v] = some x) : ∃ a cap l, v = .slice a l.length cap ∧ Prs w a cap l ∧ Rng l := by
  have h2 : Try.prog.cellsOf 24 = 2 := by kernel_rfl
  rcases open_slice Try.underlying22 h with ⟨hcs, _⟩ | ⟨y, len, cap, m, n, D, Pl, hcs, hb, hl, hm, hmm, _, hi⟩
  · simp at hcs
    exact ⟨none, 0, [], hcs, ⟨Nat.zero_le _, Nat.zero_le _, fun n c hc => by simp at hc⟩, fun q hq => by cases hq⟩
  · simp at hcs hmm
    subst hmm
    rw [h2] at hi
    have each : ∀ i, i < len → ∃ c : Pr, ((Lit.int .i64 c.1).wf = true ∧ (Lit.int .i64 c.2).wf = true) ∧ ∃ b o, y = ⟨b, o, none⟩ ∧ w.cell? ⟨b, o + i * 2, none⟩ = some (.int .i64 c.1) ∧ w.cell? ⟨b, o + i * 2 + 1, none⟩ = some (.int .i64 c.2) := by
      intro i him
      obtain ⟨cs', hc, ht⟩ := hi i (by omega)
      obtain ⟨_, hcl, hat⟩ := World.cells?_some hc
      obtain ⟨k, v, rfl, rg0, rg1⟩ := fields_pairw ht
      obtain ⟨cs0, hc0, _⟩ := hi 0 (by omega)
      obtain ⟨_, hcl0, hat0⟩ := World.cells?_some hc0
      obtain ⟨b, o, spot⟩ := y
      have hs : spot = none := by
        have h0 := hat0 0 (by decide)
        rw [List.getElem?_eq_getElem (by omega)] at h0
        simpa [Addr.add] using World.cell?_spot h0
      subst hs
      have at_ : ∀ j, j < 2 → w.cell? ⟨b, o + i * 2 + j, none⟩ = [Value.int .i64 k, .int .i64 v][j]? := fun j hj => by
        have := hat j hj
        rwa [add_lit, add_lit] at this
      exact ⟨(k, v), ⟨rg0, rg1⟩, b, o, rfl, at_ 0 (by decide), at_ 1 (by decide)⟩
    obtain ⟨f, hf⟩ := choose_lt each
    refine ⟨some y, m, (List.range len).map f, by simp [hcs], ⟨by simpa using hl, hm, fun n c hc => ?_⟩, fun q hq => ?_⟩
    rotate_left
    · obtain ⟨j, hj, rfl⟩ := List.mem_map.1 hq
      exact (hf j (List.mem_range.1 hj)).1
    have hn : n < len := by
      rcases Nat.lt_or_ge n len with h | h
      · exact h
      · rw [List.getElem?_eq_none (by simpa using h)] at hc; cases hc
    rw [List.getElem?_map, List.getElem?_range hn] at hc
    simp at hc
    subst hc
    obtain ⟨_, b, o, rfl, hcl⟩ := hf n hn
    exact ⟨b, o, rfl, hcl⟩
theorem open_pairs {v : Value} (h : DataW.trod enc Try.prog w 0 (fun _ => true) true fuel 22 [v] = some x) : ∃ a cap l, v = .slice a l.length cap ∧ Prs w a cap l := by
  obtain ⟨a, cap, l, e, hp, _⟩ := open_pairsw h
  exact ⟨a, cap, l, e, hp⟩

end
end Go.Proofs.Ytbmlpdkbiipcmaa
