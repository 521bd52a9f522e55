/- A parameter that is a row of osierlaw10.Do. -/
import Derived.Test.YtbmlpdkbiipcmaaNArgs
namespace Go.Proofs.Ytbmlpdkbiipcmaa
open Go.RowKit Go.Deep Go.ChangeShapes Go.WideShapes
set_option linter.all false

structure DoD where
  d : Int
  k : Int
  v : Int
instance : Inhabited DoD := ⟨⟨0, 0, 0⟩⟩
structure DoAt (w : World) (b o : Nat) (c : DoD) : Prop where
  c0 : w.cell? ⟨b, o, none⟩ = some (.int .i64 c.d)
  c1 : w.cell? ⟨b, o + 1, none⟩ = some (.int .i64 c.k)
  c2 : w.cell? ⟨b, o + 2, none⟩ = some (.int .i64 c.v)
def ArgDos (w : World) (a : Option Addr) (len : Nat) (cs : List DoD) : Prop :=
  cs.length = len ∧ len ≤ maxLen ∧ ∀ n c, cs[n]? = some c → ∃ b o, a = some ⟨b, o, none⟩ ∧ DoAt w b (o + n * 3) c
theorem DoAt.below {w w' : World} {b o : Nat} {c : DoD} (h : DoAt w b o c) (hb : Below w.heap.size w w') : DoAt w' b o c := by
  have go : ∀ {q : Addr} {v : Value}, w.cell? q = some v → w'.cell? q = some v := fun hc => (hb.cell (World.block_lt_of_cell? w _ hc)).trans hc
  exact ⟨go h.c0, go h.c1, go h.c2⟩

section
variable {H : Type} {enc : TypeId × Value → H} {w : World} {fuel : Nat} {x : DataW H × List MemPlace}
theorem fields_do {cs : List Value} (h : DataW.trod enc Try.prog w 0 (fun _ => true) true fuel 48 cs = some x) :
    ∃ d k v : Int, cs = [.int .i64 d, .int .i64 k, .int .i64 v] := by
  obtain ⟨ys, n, _, _, hlen, hyl, hf⟩ := DataW.trod_struct Try.underlying48 h
  have hone : Try.prog.cellsOf 3 = 1 := by kernel_rfl
  have htwo : Try.prog.cellsOf 24 = 2 := by kernel_rfl
  have h3 : Try.prog.cellsOf 48 = 3 := by kernel_rfl
  rw [h3] at hlen
  have some_of : ∀ i, i < 2 → ∃ y, ys[i]? = some y := fun i hi => ⟨_, List.getElem?_eq_getElem (by rw [hyl]; exact hi)⟩
  match cs, hlen with
  | [v0, v1, v2], _ =>
    obtain ⟨y0, e0⟩ := some_of 0 (by decide)
    obtain ⟨y1, e1⟩ := some_of 1 (by decide)
    have g0 : DataW.trod enc Try.prog w 0 (fun _ => true) true n 3 (([v0, v1, v2].drop 0).take (Try.prog.cellsOf 3)) = ys[0]? := hf 0 _ rfl
    have g1 : DataW.trod enc Try.prog w 0 (fun _ => true) true n 24 (([v0, v1, v2].drop 1).take (Try.prog.cellsOf 24)) = ys[1]? := hf 1 _ rfl
    rw [hone] at g0
    rw [htwo] at g1
    rw [e0] at g0; rw [e1] at g1
    obtain ⟨n0, a0, _, b0⟩ := DataW.trod_int Try.underlying3 g0
    obtain ⟨k, v, a1, _, _⟩ := fields_pairw g1
    simp at a0 a1
    obtain ⟨rfl, rfl⟩ := a1
    subst a0
    exact ⟨n0, k, v, rfl⟩
theorem open_dos {v : Value} (h : DataW.trod enc Try.prog w 0 (fun _ => true) true fuel 46 [v] = some x) : ∃ a len cap l, v = .slice a len cap ∧ ArgDos w a len l := by
  have h3 : Try.prog.cellsOf 48 = 3 := by kernel_rfl
  rcases open_slice Try.underlying46 h with ⟨hcs, _⟩ | ⟨y, len, cap, m, n, D, Pl, hcs, hb, hl, hm, hmm, _, hi⟩
  · simp at hcs
    exact ⟨none, 0, 0, [], hcs, rfl, Nat.zero_le _, fun n c hc => by simp at hc⟩
  · simp at hcs hmm
    subst hmm
    rw [h3] at hi
    have each : ∀ i, i < len → ∃ c : DoD, ∃ b o, y = ⟨b, o, none⟩ ∧ DoAt w b (o + i * 3) c := by
      intro i him
      obtain ⟨cs', hc, ht⟩ := hi i (by omega)
      obtain ⟨_, hcl, hat⟩ := World.cells?_some hc
      obtain ⟨d, k, v, rfl⟩ := fields_do ht
      obtain ⟨cs0, hc0, _⟩ := hi 0 (by omega)
      obtain ⟨_, hcl0, hat0⟩ := World.cells?_some hc0
      obtain ⟨b, o, spot⟩ := y
      have hs : spot = none := by
        have h0 := hat0 0 (by decide)
        rw [List.getElem?_eq_getElem (by omega)] at h0
        simpa [Addr.add] using World.cell?_spot h0
      subst hs
      have at_ : ∀ j, j < 3 → w.cell? ⟨b, o + i * 3 + j, none⟩ = [Value.int .i64 d, .int .i64 k, .int .i64 v][j]? := fun j hj => by
        have := hat j hj
        rwa [add_lit, add_lit] at this
      exact ⟨⟨d, k, v⟩, b, o, rfl, at_ 0 (by decide), at_ 1 (by decide), at_ 2 (by decide)⟩
    obtain ⟨f, hf⟩ := choose_lt each
    refine ⟨some y, len, m, (List.range len).map f, by simp [hcs], by simp, by omega, fun n c hc => ?_⟩
    have hn : n < len := by
      rcases Nat.lt_or_ge n len with h | h
      · exact h
      · rw [List.getElem?_eq_none (by simpa using h)] at hc; cases hc
    rw [List.getElem?_map, List.getElem?_range hn] at hc
    simp at hc
    subst hc
    obtain ⟨b, o, rfl, hcl⟩ := hf n hn
    exact ⟨b, o, rfl, hcl⟩
end
end Go.Proofs.Ytbmlpdkbiipcmaa
