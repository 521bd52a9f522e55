/- Parameters api.Tree: their nodes, how long the pairs may be. No condition: definitions and lemmas. -/
import Derived.Test.YteebceecohhegaaTrA
import Derived.SizedLaws
namespace Go.Proofs.Yteebceecohhegaa
open Go.RowKit Go.Deep Go.ChangeShapes Go.WideShapes
set_option linter.all false
set_option maxRecDepth 20000

/-- No node has more pairs than a form may hold. -/
def Mid (N : List Nd) : Prop := ∀ n ∈ N, n.p.length ≤ 8796093022208
section
variable {H : Type} {enc : TypeId × Value → H} {w : World} {fuel : Nat} {x : DataW H × List MemPlace}
theorem mem_weightsAll {P : Program} {e : TypeId} : ∀ {l : List (DataW H)} {d : DataW H} {k : Nat}, d ∈ l → k ∈ d.weights P e → k ∈ DataW.weightsAll P e l := by
  intro l
  induction l with
  | nil => intro d k h; cases h
  | cons y l ih =>
    intro d k h hk
    simp only [DataW.weightsAll, List.mem_append]
    rcases List.mem_cons.1 h with rfl | h
    · exact .inl hk
    · exact .inr (ih h hk)
theorem bytesPair : Try.prog.bytesOf 54 = 16 := by kernel_rfl
theorem wt_pairs {a : Option Addr} {len cap : Nat} (h : DataW.trod enc Try.prog w 0 (fun _ => true) true fuel 40 [.slice a len cap] = some x) (hb : ∀ n ∈ x.1.weights Try.prog 40, n ≤ reachBytes) : len ≤ 8796093022208 := by
  rcases open_slice Try.underlying40 h with ⟨hcs, _⟩ | ⟨y, len', cap', m, n, D, Pl, hcs, _, hl, hm, hmm, hx, _⟩
  · simp at hcs
    omega
  · simp at hcs
    obtain ⟨_, rfl, rfl⟩ := hcs
    subst hx
    have h1 : (((List.range len).map D).length + ((List.range (m - len)).map fun j => D (len + j)).length) * Try.prog.bytesOf 54 ≤ reachBytes := hb _ (by
      simp only [DataW.weights, Try.underlying40]
      exact List.mem_cons_self)
    rw [bytesPair] at h1
    simp only [List.length_map, List.length_range] at h1
    unfold reachBytes at h1
    omega
theorem fields_node {cs : List Value} (h : DataW.trod enc Try.prog w 0 (fun _ => true) true fuel 47 cs = some x) (hb : ∀ n ∈ x.1.weights Try.prog 47, n ≤ reachBytes) :
    ∃ (n : Nd) (pa : Option Addr) (pc : Nat), cs = [.bool n.r, .int .i64 n.k, .int .i64 n.a, .int .i64 n.b, .slice pa n.p.length pc, .int .i64 n.s] ∧ Prs w pa pc n.p ∧ n.p.length ≤ 8796093022208 := by
  obtain ⟨ys, n, _, hx, hlen, hyl, hf⟩ := DataW.trod_struct Try.underlying47 h
  have hone : Try.prog.cellsOf 3 = 1 := by kernel_rfl
  have hone2 : Try.prog.cellsOf 4 = 1 := by kernel_rfl
  have hone4 : Try.prog.cellsOf 40 = 1 := by kernel_rfl
  have h6 : Try.prog.cellsOf 47 = 6 := by kernel_rfl
  rw [h6] at hlen
  have some_of : ∀ i, i < 6 → ∃ y, ys[i]? = some y := fun i hi => ⟨_, List.getElem?_eq_getElem (by rw [hyl]; exact hi)⟩
  match cs, hlen with
  | [v0, v1, v2, v3, v4, v5], _ =>
    obtain ⟨y0, e0⟩ := some_of 0 (by decide)
    obtain ⟨y1, e1⟩ := some_of 1 (by decide)
    obtain ⟨y2, e2⟩ := some_of 2 (by decide)
    obtain ⟨y3, e3⟩ := some_of 3 (by decide)
    obtain ⟨y4, e4⟩ := some_of 4 (by decide)
    obtain ⟨y5, e5⟩ := some_of 5 (by decide)
    have g0 : DataW.trod enc Try.prog w 0 (fun _ => true) true n 4 (([v0, v1, v2, v3, v4, v5].drop 0).take (Try.prog.cellsOf 4)) = ys[0]? := hf 0 _ rfl
    have g1 : DataW.trod enc Try.prog w 0 (fun _ => true) true n 3 (([v0, v1, v2, v3, v4, v5].drop 1).take (Try.prog.cellsOf 3)) = ys[1]? := hf 1 _ rfl
    have g2 : DataW.trod enc Try.prog w 0 (fun _ => true) true n 3 (([v0, v1, v2, v3, v4, v5].drop 2).take (Try.prog.cellsOf 3)) = ys[2]? := hf 2 _ rfl
    have g3 : DataW.trod enc Try.prog w 0 (fun _ => true) true n 3 (([v0, v1, v2, v3, v4, v5].drop 3).take (Try.prog.cellsOf 3)) = ys[3]? := hf 3 _ rfl
    have g4 : DataW.trod enc Try.prog w 0 (fun _ => true) true n 40 (([v0, v1, v2, v3, v4, v5].drop 4).take (Try.prog.cellsOf 40)) = ys[4]? := hf 4 _ rfl
    have g5 : DataW.trod enc Try.prog w 0 (fun _ => true) true n 3 (([v0, v1, v2, v3, v4, v5].drop 5).take (Try.prog.cellsOf 3)) = ys[5]? := hf 5 _ rfl
    rw [hone2, e0] at g0; rw [hone, e1] at g1; rw [hone, e2] at g2; rw [hone, e3] at g3; rw [hone4, e4] at g4; rw [hone, e5] at g5
    obtain ⟨b0, a0, _⟩ := DataW.trod_bool Try.underlying4 g0
    obtain ⟨n1, a1, _⟩ := DataW.trod_int Try.underlying3 g1
    obtain ⟨n2, a2, _⟩ := DataW.trod_int Try.underlying3 g2
    obtain ⟨n3, a3, _⟩ := DataW.trod_int Try.underlying3 g3
    obtain ⟨a, cap, l, hv, ha⟩ := open_pairs (v := v4) (by simpa using g4)
    obtain ⟨n5, a5, _⟩ := DataW.trod_int Try.underlying3 g5
    simp at a0 a1 a2 a3 a5
    subst hv
    have hw := wt_pairs (x := y4) (by simpa using g4) (fun k hk => hb k (by
      rw [hx]
      simp only [DataW.weights, Try.underlying47]
      exact DataW.weights_mem_each (j := 4) (t := 40) (d := y4.1) rfl (by rw [List.getElem?_map, e4]; rfl) k hk))
    subst a0; subst a1; subst a2; subst a3; subst a5
    exact ⟨⟨b0, n1, n2, n3, l, n5⟩, a, cap, rfl, ha, hw⟩
theorem open_nodes {v : Value} (h : DataW.trod enc Try.prog w 0 (fun _ => true) true fuel 22 [v] = some x) (hb : ∀ n ∈ x.1.weights Try.prog 22, n ≤ reachBytes) : ∃ a cap N, v = .slice a N.length cap ∧ Ns w a cap N ∧ Mid N := by
  have h2 : Try.prog.cellsOf 47 = 6 := by kernel_rfl
  rcases open_slice Try.underlying22 h with ⟨hcs, _⟩ | ⟨y, len, cap, m, n, D, Pl, hcs, hbb, hl, hm, hmm, hx, hi⟩
  · simp at hcs
    exact ⟨none, 0, [], hcs, Ns.none w, fun q hq => by cases hq⟩
  · simp at hcs hmm
    subst hmm
    subst hx
    rw [h2] at hi
    have each : ∀ i, i < len → ∃ d : Nd, d.p.length ≤ 8796093022208 ∧ ∃ b o pa pc, y = ⟨b, o, none⟩ ∧ NA w b (o + i * 6) pa pc d := by
      intro i him
      obtain ⟨cs', hc, ht⟩ := hi i (by omega)
      obtain ⟨_, hcl, hat⟩ := World.cells?_some hc
      obtain ⟨d, pa, pc, rfl, hp, hd⟩ := fields_node ht (fun k hk => hb k (by
        simp only [DataW.weights, Try.underlying22]
        exact List.mem_cons_of_mem _ (List.mem_append_left _ (mem_weightsAll (List.mem_map.2 ⟨i, List.mem_range.2 him, rfl⟩) hk))))
      obtain ⟨cs0, hc0, _⟩ := hi 0 (by omega)
      obtain ⟨_, hcl0, hat0⟩ := World.cells?_some hc0
      obtain ⟨b, o, spot⟩ := y
      have hs : spot = none := by
        have h0 := hat0 0 (by decide)
        rw [List.getElem?_eq_getElem (by omega)] at h0
        simpa [Addr.add] using World.cell?_spot h0
      subst hs
      have at_ : ∀ j, j < 6 → w.cell? ⟨b, o + i * 6 + j, none⟩ = [Value.bool d.r, .int .i64 d.k, .int .i64 d.a, .int .i64 d.b, .slice pa d.p.length pc, .int .i64 d.s][j]? := fun j hj => by
        have := hat j hj
        rwa [add_lit, add_lit] at this
      exact ⟨d, hd, b, o, pa, pc, rfl, at_ 0 (by decide), at_ 1 (by decide), at_ 2 (by decide), at_ 3 (by decide), at_ 4 (by decide), at_ 5 (by decide), hp⟩
    haveI : Inhabited Nd := ⟨Nd.z⟩
    obtain ⟨f, hf⟩ := choose_lt each
    refine ⟨some y, m, (List.range len).map f, by simp [hcs], ⟨by simpa using hl, hm, fun n c hc => ?_⟩, fun q hq => ?_⟩
    rotate_left
    · obtain ⟨j, hj, rfl⟩ := List.mem_map.1 hq
      exact (hf j (List.mem_range.1 hj)).1
    have hn : n < len := by
      rcases Nat.lt_or_ge n len with h | h
      · exact h
      · rw [List.getElem?_eq_none (by simpa using h)] at hc; cases hc
    rw [List.getElem?_map, List.getElem?_range hn] at hc
    simp at hc
    subst hc
    obtain ⟨_, b, o, pa, pc, rfl, hcl⟩ := hf n hn
    exact ⟨b, o, pa, pc, rfl, hcl⟩
theorem fields_tree {cs : List Value} (h : DataW.trod enc Try.prog w 0 (fun _ => true) true fuel 24 cs = some x) (hb : ∀ n ∈ x.1.weights Try.prog 24, n ≤ reachBytes) :
    ∃ (t : Int) (a : Option Addr) (cap : Nat) (N : List Nd), cs = [.int .i64 t, .slice a N.length cap] ∧ Ns w a cap N ∧ Mid N := by
  obtain ⟨ys, n, _, hx, hlen, hyl, hf⟩ := DataW.trod_struct Try.underlying24 h
  have hone : Try.prog.cellsOf 3 = 1 := by kernel_rfl
  have hone4 : Try.prog.cellsOf 22 = 1 := by kernel_rfl
  have h2 : Try.prog.cellsOf 24 = 2 := by kernel_rfl
  rw [h2] at hlen
  have some_of : ∀ i, i < 2 → ∃ y, ys[i]? = some y := fun i hi => ⟨_, List.getElem?_eq_getElem (by rw [hyl]; exact hi)⟩
  match cs, hlen with
  | [v0, v1], _ =>
    obtain ⟨y0, e0⟩ := some_of 0 (by decide)
    obtain ⟨y1, e1⟩ := some_of 1 (by decide)
    have g0 : DataW.trod enc Try.prog w 0 (fun _ => true) true n 3 (([v0, v1].drop 0).take (Try.prog.cellsOf 3)) = ys[0]? := hf 0 _ rfl
    have g1 : DataW.trod enc Try.prog w 0 (fun _ => true) true n 22 (([v0, v1].drop 1).take (Try.prog.cellsOf 22)) = ys[1]? := hf 1 _ rfl
    rw [hone, e0] at g0; rw [hone4, e1] at g1
    obtain ⟨n0, a0, _⟩ := DataW.trod_int Try.underlying3 g0
    obtain ⟨a, cap, N, hv, hN, hM⟩ := open_nodes (v := v1) (x := y1) (by simpa using g1) (fun k hk => hb k (by
      rw [hx]
      simp only [DataW.weights, Try.underlying24]
      exact DataW.weights_mem_each (j := 1) (t := 22) (d := y1.1) rfl (by rw [List.getElem?_map, e1]; rfl) k hk))
    simp at a0
    subst a0; subst hv
    exact ⟨n0, a, cap, N, rfl, hN, hM⟩
end
end Go.Proofs.Yteebceecohhegaa
