/- The calls that a law takes: what the walk is told of one Call, and of a slice of them. -/
import Derived.Test.YtighdfmjmmphaaaAwk
import Derived.Deep.Slices
import Derived.Deep.Fields
import Derived.ChangeArms
namespace Go.Proofs.Ytighdfmjmmphaaa
open Go.RowKit Go.Deep Go.ChangeShapes Go.WideShapes
set_option linter.unusedVariables false

structure CallD where
  d : Int
  k : Int
  id : Int
  old : Int
  now : Int
  vs : List Int
instance : Inhabited CallD := ⟨⟨0, 0, 0, 0, 0, []⟩⟩

/-- The values of a Call: a slice that can be read, whatever its address. -/
def Vals (w : World) (a : Option Addr) (cap : Nat) (vs : List Int) : Prop :=
  vs.length ≤ maxLen ∧ (a = none → vs = [] ∧ cap = 0) ∧ ∀ x, a = some x → ∀ n, n < vs.length → w.cell? (x.add n) = some (.int .i64 (vs.getD n 0))

theorem Vals.ints {w w' : World} {a : Option Addr} {cap : Nat} {vs : List Int} {F : Nat → Prop} (h : Vals w a cap vs) (hb : Below w.heap.size w w') (hF : ∀ b, b < w.heap.size → ¬ F b) : Ints F w' (.slice a vs.length cap) vs := by
  obtain ⟨h1, h2, h3⟩ := h
  cases a with
  | none => obtain ⟨rfl, rfl⟩ := h2 rfl; exact .inl ⟨rfl, rfl⟩
  | some x =>
    refine .inr ⟨x, cap, rfl, ?_, h1, fun j hj => ?_⟩
    · rcases Nat.eq_zero_or_pos vs.length with h | h
      · exact .inl (List.eq_nil_of_length_eq_zero h)
      · exact .inr (hF _ (by have := World.block_lt_of_cell? w _ (h3 x rfl 0 h); simpa [Addr.add] using this))
    · have := h3 x rfl j hj
      exact (hb.cell (World.block_lt_of_cell? w _ this)).trans this

/-- A Call that lies in memory. -/
structure CallAt (w : World) (b o : Nat) (c : CallD) (a : Option Addr) (cap : Nat) : Prop where
  c0 : w.cell? ⟨b, o, none⟩ = some (.int .i64 c.d)
  c1 : w.cell? ⟨b, o + 1, none⟩ = some (.int .i64 c.k)
  c2 : w.cell? ⟨b, o + 2, none⟩ = some (.int .i64 c.id)
  c3 : w.cell? ⟨b, o + 3, none⟩ = some (.int .i64 c.old)
  c4 : w.cell? ⟨b, o + 4, none⟩ = some (.int .i64 c.now)
  c5 : w.cell? ⟨b, o + 5, none⟩ = some (.slice a c.vs.length cap)
  vs : Vals w a cap c.vs

def ArgCalls (w : World) (a : Option Addr) (len : Nat) (cs : List CallD) : Prop :=
  cs.length = len ∧ len ≤ maxLen ∧ ∀ n c, cs[n]? = some c → ∃ b o va cap, a = some ⟨b, o, none⟩ ∧ CallAt w b (o + n * 6) c va cap

section
variable {H : Type} {enc : TypeId × Value → H} {w : World} {fuel : Nat} {x : DataW H × List MemPlace}

theorem open_vals {v : Value} (h : DataW.trod enc Try.prog w 0 (fun _ => true) true fuel 29 [v] = some x) : ∃ a cap vs, v = .slice a vs.length cap ∧ Vals w a cap vs := by
  rcases open_ints Try.underlying29 Try.underlying3 (by kernel_rfl) h with ⟨hcs, _⟩ | ⟨y, l, c, zs, hcs, _, hl, hm, hz, _, hcell, hwz⟩
  · simp at hcs
    subst hcs
    exact ⟨none, 0, [], rfl, Nat.zero_le _, fun _ => ⟨rfl, rfl⟩, fun x hx => by cases hx⟩
  · simp at hcs hz
    subst hcs
    have hlen : (zs.take l).length = l := by simp; omega
    refine ⟨some y, c, zs.take l, by rw [hlen], by rw [hlen]; omega, (fun e => by cases e), fun x hx n hn => ?_⟩
    cases hx
    rw [hlen] at hn
    rw [hcell n (by omega)]
    simp [List.getD_eq_getElem?_getD, List.getElem?_take, hn]

theorem fields6 {cs : List Value} (h : DataW.trod enc Try.prog w 0 (fun _ => true) true fuel 31 cs = some x) :
    ∃ (c : CallD) (a : Option Addr) (cap : Nat), cs = [.int .i64 c.d, .int .i64 c.k, .int .i64 c.id, .int .i64 c.old, .int .i64 c.now, .slice a c.vs.length cap] ∧ Vals w a cap c.vs := by
  obtain ⟨ys, n, _, _, hlen, hyl, hf⟩ := DataW.trod_struct Try.underlying31 h
  have hone : Try.prog.cellsOf 3 = 1 := by kernel_rfl
  have hone2 : Try.prog.cellsOf 29 = 1 := by kernel_rfl
  have h6 : Try.prog.cellsOf 31 = 6 := by kernel_rfl
  rw [h6] at hlen
  have some_of : ∀ i, i < 6 → ∃ y, ys[i]? = some y := fun i hi => ⟨_, List.getElem?_eq_getElem (by rw [hyl]; exact hi)⟩
  match cs, hlen with
  | [v0, v1, v2, v3, v4, v5], _ =>
    obtain ⟨y0, e0⟩ := some_of 0 (by decide)
    obtain ⟨y1, e1⟩ := some_of 1 (by decide)
    obtain ⟨y2, e2⟩ := some_of 2 (by decide)
    obtain ⟨y3, e3⟩ := some_of 3 (by decide)
    obtain ⟨y4, e4⟩ := some_of 4 (by decide)
    obtain ⟨y5, e5⟩ := some_of 5 (by decide)
    have g0 : DataW.trod enc Try.prog w 0 (fun _ => true) true n 3 (([v0, v1, v2, v3, v4, v5].drop 0).take (Try.prog.cellsOf 3)) = ys[0]? := hf 0 _ rfl
    have g1 : DataW.trod enc Try.prog w 0 (fun _ => true) true n 3 (([v0, v1, v2, v3, v4, v5].drop 1).take (Try.prog.cellsOf 3)) = ys[1]? := hf 1 _ rfl
    have g2 : DataW.trod enc Try.prog w 0 (fun _ => true) true n 3 (([v0, v1, v2, v3, v4, v5].drop 2).take (Try.prog.cellsOf 3)) = ys[2]? := hf 2 _ rfl
    have g3 : DataW.trod enc Try.prog w 0 (fun _ => true) true n 3 (([v0, v1, v2, v3, v4, v5].drop 3).take (Try.prog.cellsOf 3)) = ys[3]? := hf 3 _ rfl
    have g4 : DataW.trod enc Try.prog w 0 (fun _ => true) true n 3 (([v0, v1, v2, v3, v4, v5].drop 4).take (Try.prog.cellsOf 3)) = ys[4]? := hf 4 _ rfl
    have g5 : DataW.trod enc Try.prog w 0 (fun _ => true) true n 29 (([v0, v1, v2, v3, v4, v5].drop 5).take (Try.prog.cellsOf 29)) = ys[5]? := hf 5 _ rfl
    rw [hone] at g0 g1 g2 g3 g4
    rw [hone2] at g5
    rw [e0] at g0; rw [e1] at g1; rw [e2] at g2; rw [e3] at g3; rw [e4] at g4; rw [e5] at g5
    obtain ⟨n0, a0, _⟩ := DataW.trod_int Try.underlying3 g0
    obtain ⟨n1, a1, _⟩ := DataW.trod_int Try.underlying3 g1
    obtain ⟨n2, a2, _⟩ := DataW.trod_int Try.underlying3 g2
    obtain ⟨n3, a3, _⟩ := DataW.trod_int Try.underlying3 g3
    obtain ⟨n4, a4, _⟩ := DataW.trod_int Try.underlying3 g4
    obtain ⟨a, cap, vs, hv, ha⟩ := open_vals (v := v5) (by simpa using g5)
    simp at a0 a1 a2 a3 a4
    subst a0; subst a1; subst a2; subst a3; subst a4; subst hv
    exact ⟨⟨n0, n1, n2, n3, n4, vs⟩, a, cap, rfl, ha⟩

theorem open_calls {v : Value} (h : DataW.trod enc Try.prog w 0 (fun _ => true) true fuel 22 [v] = some x) : ∃ a len cap cs, v = .slice a len cap ∧ ArgCalls w a len cs := by
  have h6 : Try.prog.cellsOf 31 = 6 := by kernel_rfl
  rcases open_slice Try.underlying22 h with ⟨hcs, _⟩ | ⟨y, len, cap, m, n, D, Pl, hcs, hb, hl, hm, hmm, _, hi⟩
  · simp at hcs
    exact ⟨none, 0, 0, [], hcs, rfl, Nat.zero_le _, fun n c hc => by simp at hc⟩
  · simp at hcs hmm
    subst hmm
    rw [h6] at hi
    have each : ∀ i, i < len → ∃ c : CallD, ∃ b o va vc, y = ⟨b, o, none⟩ ∧ CallAt w b (o + i * 6) c va vc := by
      intro i him
      obtain ⟨cs', hc, ht⟩ := hi i (by omega)
      obtain ⟨_, hcl, hat⟩ := World.cells?_some hc
      obtain ⟨c, a, vc, rfl, ha⟩ := fields6 ht
      obtain ⟨cs0, hc0, _⟩ := hi 0 (by omega)
      obtain ⟨_, hcl0, hat0⟩ := World.cells?_some hc0
      obtain ⟨b, o, spot⟩ := y
      have hs : spot = none := by
        have h0 := hat0 0 (by decide)
        rw [List.getElem?_eq_getElem (by omega)] at h0
        simpa [Addr.add] using World.cell?_spot h0
      subst hs
      have at_ : ∀ j, j < 6 → w.cell? ⟨b, o + i * 6 + j, none⟩ = [Value.int .i64 c.d, .int .i64 c.k, .int .i64 c.id, .int .i64 c.old, .int .i64 c.now, .slice a c.vs.length vc][j]? := fun j hj => by
        have := hat j hj
        rwa [add_lit, add_lit] at this
      exact ⟨c, b, o, a, vc, rfl, ⟨at_ 0 (by decide), at_ 1 (by decide), at_ 2 (by decide), at_ 3 (by decide), at_ 4 (by decide), at_ 5 (by decide), ha⟩⟩
    obtain ⟨f, hf⟩ := choose_lt each
    refine ⟨some y, len, _, (List.range len).map f, hcs, by simp, by omega, fun n c hc => ?_⟩
    have hn : n < len := by
      rcases Nat.lt_or_ge n len with h | h
      · exact h
      · rw [List.getElem?_eq_none (by simpa using h)] at hc; cases hc
    rw [List.getElem?_map, List.getElem?_range hn] at hc
    simp at hc
    subst hc
    obtain ⟨b, o, va, vc, rfl, hcl⟩ := hf n hn
    exact ⟨b, o, va, vc, rfl, hcl⟩
end

theorem CallAt.below {w w' : World} {b o : Nat} {c : CallD} {a : Option Addr} {cap : Nat} (h : CallAt w b o c a cap) (hb : Below w.heap.size w w') :
    w'.cell? ⟨b, o, none⟩ = some (.int .i64 c.d) ∧ w'.cell? ⟨b, o + 1, none⟩ = some (.int .i64 c.k) ∧ w'.cell? ⟨b, o + 2, none⟩ = some (.int .i64 c.id) ∧ w'.cell? ⟨b, o + 3, none⟩ = some (.int .i64 c.old) ∧
      w'.cell? ⟨b, o + 4, none⟩ = some (.int .i64 c.now) ∧ w'.cell? ⟨b, o + 5, none⟩ = some (.slice a c.vs.length cap) := by
  have go : ∀ {q : Addr} {v : Value}, w.cell? q = some v → w'.cell? q = some v := fun hc => (hb.cell (World.block_lt_of_cell? w _ hc)).trans hc
  exact ⟨go h.c0, go h.c1, go h.c2, go h.c3, go h.c4, go h.c5⟩
end Go.Proofs.Ytighdfmjmmphaaa
