/- Parameters api.Op, []api.Op, api.Ans. No condition: definitions and lemmas. -/
import Derived.Test.YtadfnbmogobopaaLfM
namespace Go.Proofs.Ytadfnbmogobopaa
open Go.RowKit Go.Deep Go.ChangeShapes Go.WideShapes
set_option linter.all false
set_option maxRecDepth 20000

structure OpD where
  c : Int
  k : Int
  h : Int
  v : Int
instance opInh : Inhabited OpD := ⟨⟨0, 0, 0, 0⟩⟩
def OpD.wf (d : OpD) : Prop := (Lit.int .i64 d.c).wf = true ∧ (Lit.int .i64 d.k).wf = true ∧ (Lit.int .i64 d.h).wf = true ∧ (Lit.int .i64 d.v).wf = true
/-- A slice of operations that can be read. -/
def Ops (w : World) (a : Option Addr) (cap : Nat) (l : List OpD) : Prop :=
  l.length ≤ cap ∧ cap ≤ maxLen ∧ (∀ n q, l[n]? = some q → ∃ b o, a = some ⟨b, o, none⟩ ∧ w.cell? ⟨b, o + n * 4, none⟩ = some (.int .i64 q.c) ∧ w.cell? ⟨b, o + n * 4 + 1, none⟩ = some (.int .i64 q.k) ∧ w.cell? ⟨b, o + n * 4 + 2, none⟩ = some (.int .i64 q.h) ∧ w.cell? ⟨b, o + n * 4 + 3, none⟩ = some (.int .i64 q.v)) ∧ (∀ q ∈ l, q.wf)
theorem Ops.below {w w' : World} {a : Option Addr} {cap : Nat} {l : List OpD} (h : Ops w a cap l) (hb : Below w.heap.size w w') : Ops w' a cap l :=
  ⟨h.1, h.2.1, fun n q hq => by
    obtain ⟨b, o, rfl, h0, h1, h2, h3⟩ := h.2.2.1 n q hq
    have go : ∀ {q : Addr} {v : Value}, w.cell? q = some v → w'.cell? q = some v := fun hc => (hb.cell (World.block_lt_of_cell? w _ hc)).trans hc
    exact ⟨b, o, rfl, go h0, go h1, go h2, go h3⟩, h.2.2.2⟩
theorem Ops.nil (w : World) : Ops w none 0 [] := ⟨Nat.le_refl _, Nat.zero_le _, fun n q hq => by simp at hq, fun q hq => by cases hq⟩

section
variable {H : Type} {enc : TypeId × Value → H} {w : World} {fuel : Nat} {x : DataW H × List MemPlace}

theorem fields_op {cs : List Value} (h : DataW.trod enc Try.prog w 0 (fun _ => true) true fuel 25 cs = some x) :
    ∃ d : OpD, cs = [.int .i64 d.c, .int .i64 d.k, .int .i64 d.h, .int .i64 d.v] ∧ d.wf := by
  obtain ⟨ys, n, _, _, hlen, hyl, hf⟩ := DataW.trod_struct Try.underlying25 h
  have hone : Try.prog.cellsOf 3 = 1 := by kernel_rfl
  have h4 : Try.prog.cellsOf 25 = 4 := by kernel_rfl
  rw [h4] at hlen
  have some_of : ∀ i, i < 4 → ∃ y, ys[i]? = some y := fun i hi => ⟨_, List.getElem?_eq_getElem (by rw [hyl]; exact hi)⟩
  match cs, hlen with
  | [v0, v1, v2, v3], _ =>
    obtain ⟨y0, e0⟩ := some_of 0 (by decide)
    obtain ⟨y1, e1⟩ := some_of 1 (by decide)
    obtain ⟨y2, e2⟩ := some_of 2 (by decide)
    obtain ⟨y3, e3⟩ := some_of 3 (by decide)
    have g0 : DataW.trod enc Try.prog w 0 (fun _ => true) true n 3 (([v0, v1, v2, v3].drop 0).take (Try.prog.cellsOf 3)) = ys[0]? := hf 0 _ rfl
    have g1 : DataW.trod enc Try.prog w 0 (fun _ => true) true n 3 (([v0, v1, v2, v3].drop 1).take (Try.prog.cellsOf 3)) = ys[1]? := hf 1 _ rfl
    have g2 : DataW.trod enc Try.prog w 0 (fun _ => true) true n 3 (([v0, v1, v2, v3].drop 2).take (Try.prog.cellsOf 3)) = ys[2]? := hf 2 _ rfl
    have g3 : DataW.trod enc Try.prog w 0 (fun _ => true) true n 3 (([v0, v1, v2, v3].drop 3).take (Try.prog.cellsOf 3)) = ys[3]? := hf 3 _ rfl
    rw [hone] at g0 g1 g2 g3
    rw [e0] at g0; rw [e1] at g1; rw [e2] at g2; rw [e3] at g3
    obtain ⟨n0, a0, _, b0⟩ := DataW.trod_int Try.underlying3 g0
    obtain ⟨n1, a1, _, b1⟩ := DataW.trod_int Try.underlying3 g1
    obtain ⟨n2, a2, _, b2⟩ := DataW.trod_int Try.underlying3 g2
    obtain ⟨n3, a3, _, b3⟩ := DataW.trod_int Try.underlying3 g3
    simp at a0 a1 a2 a3
    subst a0; subst a1; subst a2; subst a3
    exact ⟨⟨n0, n1, n2, n3⟩, rfl, b0, b1, b2, b3⟩

theorem open_ops {v : Value} (h : DataW.trod enc Try.prog w 0 (fun _ => true) true fuel 46 [v] = some x) : ∃ a cap l, v = .slice a l.length cap ∧ Ops w a cap l := by
  have h2 : Try.prog.cellsOf 25 = 4 := by kernel_rfl
  rcases open_slice Try.underlying46 h with ⟨hcs, _⟩ | ⟨y, len, cap, m, n, D, Pl, hcs, hb, hl, hm, hmm, _, hi⟩
  · simp at hcs
    exact ⟨none, 0, [], hcs, Ops.nil w⟩
  · simp at hcs hmm
    subst hmm
    rw [h2] at hi
    have each : ∀ i, i < len → ∃ d : OpD, d.wf ∧ ∃ b o, y = ⟨b, o, none⟩ ∧ w.cell? ⟨b, o + i * 4, none⟩ = some (.int .i64 d.c) ∧ w.cell? ⟨b, o + i * 4 + 1, none⟩ = some (.int .i64 d.k) ∧ w.cell? ⟨b, o + i * 4 + 2, none⟩ = some (.int .i64 d.h) ∧ w.cell? ⟨b, o + i * 4 + 3, none⟩ = some (.int .i64 d.v) := by
      intro i him
      obtain ⟨cs', hc, ht⟩ := hi i (by omega)
      obtain ⟨_, hcl, hat⟩ := World.cells?_some hc
      obtain ⟨d, rfl, hwf⟩ := fields_op ht
      obtain ⟨cs0, hc0, _⟩ := hi 0 (by omega)
      obtain ⟨_, hcl0, hat0⟩ := World.cells?_some hc0
      obtain ⟨b, o, spot⟩ := y
      have hs : spot = none := by
        have h0 := hat0 0 (by decide)
        rw [List.getElem?_eq_getElem (by omega)] at h0
        simpa [Addr.add] using World.cell?_spot h0
      subst hs
      have at_ : ∀ j, j < 4 → w.cell? ⟨b, o + i * 4 + j, none⟩ = [Value.int .i64 d.c, .int .i64 d.k, .int .i64 d.h, .int .i64 d.v][j]? := fun j hj => by
        have := hat j hj
        rwa [add_lit, add_lit] at this
      exact ⟨d, hwf, b, o, rfl, at_ 0 (by decide), at_ 1 (by decide), at_ 2 (by decide), at_ 3 (by decide)⟩
    obtain ⟨f, hf⟩ := choose_lt each
    refine ⟨some y, m, (List.range len).map f, by simp [hcs], by simpa using hl, hm, fun n c hc => ?_, fun q hq => ?_⟩
    rotate_left
    · obtain ⟨j, hj, rfl⟩ := List.mem_map.1 hq
      exact (hf j (List.mem_range.1 hj)).1
    have hn : n < len := by
      rcases Nat.lt_or_ge n len with h | h
      · exact h
      · rw [List.getElem?_eq_none (by simpa using h)] at hc; cases hc
    rw [List.getElem?_map, List.getElem?_range hn] at hc
    simp at hc
    subst hc
    obtain ⟨_, b, o, rfl, hcl⟩ := hf n hn
    exact ⟨b, o, rfl, hcl⟩

theorem fields_ans {cs : List Value} (h : DataW.trod enc Try.prog w 0 (fun _ => true) true fuel 34 cs = some x) :
    ∃ (d : Ad) (a : Option Addr) (cap : Nat), cs = [.int .i64 d.err, .bool d.ok, .int .i64 d.k, .int .i64 d.v, .int .i64 d.n, .slice a d.ps.length cap] ∧ Prs w a cap d.ps := by
  obtain ⟨ys, n, _, _, hlen, hyl, hf⟩ := DataW.trod_struct Try.underlying34 h
  have hone : Try.prog.cellsOf 3 = 1 := by kernel_rfl
  have hone1 : Try.prog.cellsOf 30 = 1 := by kernel_rfl
  have hone2 : Try.prog.cellsOf 4 = 1 := by kernel_rfl
  have hone3 : Try.prog.cellsOf 32 = 2 := by kernel_rfl
  have hone4 : Try.prog.cellsOf 22 = 1 := by kernel_rfl
  have h6 : Try.prog.cellsOf 34 = 6 := by kernel_rfl
  rw [h6] at hlen
  have some_of : ∀ i, i < 5 → ∃ y, ys[i]? = some y := fun i hi => ⟨_, List.getElem?_eq_getElem (by rw [hyl]; exact hi)⟩
  match cs, hlen with
  | [v0, v1, v2, v3, v4, v5], _ =>
    obtain ⟨y0, e0⟩ := some_of 0 (by decide)
    obtain ⟨y1, e1⟩ := some_of 1 (by decide)
    obtain ⟨y2, e2⟩ := some_of 2 (by decide)
    obtain ⟨y3, e3⟩ := some_of 3 (by decide)
    obtain ⟨y4, e4⟩ := some_of 4 (by decide)
    have g0 : DataW.trod enc Try.prog w 0 (fun _ => true) true n 30 (([v0, v1, v2, v3, v4, v5].drop 0).take (Try.prog.cellsOf 30)) = ys[0]? := hf 0 _ rfl
    have g1 : DataW.trod enc Try.prog w 0 (fun _ => true) true n 4 (([v0, v1, v2, v3, v4, v5].drop 1).take (Try.prog.cellsOf 4)) = ys[1]? := hf 1 _ rfl
    have g2 : DataW.trod enc Try.prog w 0 (fun _ => true) true n 32 (([v0, v1, v2, v3, v4, v5].drop 2).take (Try.prog.cellsOf 32)) = ys[2]? := hf 2 _ rfl
    have g3 : DataW.trod enc Try.prog w 0 (fun _ => true) true n 3 (([v0, v1, v2, v3, v4, v5].drop 4).take (Try.prog.cellsOf 3)) = ys[3]? := hf 3 _ rfl
    have g4 : DataW.trod enc Try.prog w 0 (fun _ => true) true n 22 (([v0, v1, v2, v3, v4, v5].drop 5).take (Try.prog.cellsOf 22)) = ys[4]? := hf 4 _ rfl
    rw [hone1, e0] at g0; rw [hone2, e1] at g1; rw [hone3, e2] at g2; rw [hone, e3] at g3; rw [hone4, e4] at g4
    obtain ⟨n0, a0, _⟩ := DataW.trod_int Try.underlying30 g0
    obtain ⟨b1, a1, _⟩ := DataW.trod_bool Try.underlying4 g1
    obtain ⟨k, v, a2⟩ := fields_pair (cs := [v2, v3]) (by simpa using g2)
    obtain ⟨n3, a3, _⟩ := DataW.trod_int Try.underlying3 g3
    obtain ⟨a, cap, l, hv, ha⟩ := open_pairs (v := v5) (by simpa using g4)
    simp at a0 a1 a2 a3
    obtain ⟨rfl, rfl⟩ := a2
    subst a0; subst a1; subst a3; subst hv
    exact ⟨⟨n0, b1, k, v, n3, l⟩, a, cap, rfl, ha⟩
end
end Go.Proofs.Ytadfnbmogobopaa
