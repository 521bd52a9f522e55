/- (*model.Map).Run. No condition: lemmas. -/
import Derived.Test.YtadfnbmogobopaaMdO
import Derived.Test.YtadfnbmogobopaaLfO
import Derived.Test.YtadfnbmogobopaaLfN
namespace Go.Proofs.Ytadfnbmogobopaa
open Go.RowKit Go.Sort
set_option linter.all false
set_option maxRecDepth 20000

/-- The pairs after operations, one after the other; what each told. -/
def runP : List Pr → List OpD → List Pr
  | L, [] => L
  | L, o :: z => runP (doP L o.c o.k o.v) z
def runA : List Pr → List OpD → List Ad
  | _, [] => []
  | L, o :: z => doA L o.c o.k o.h :: runA (doP L o.c o.k o.v) z
theorem runP_app : ∀ (L : List Pr) (y z : List OpD), runP L (y ++ z) = runP (runP L y) z
  | _, [], _ => rfl
  | L, o :: y, z => runP_app _ y z
theorem runA_app : ∀ (L : List Pr) (y z : List OpD), runA L (y ++ z) = runA L y ++ runA (runP L y) z
  | _, [], _ => rfl
  | L, o :: y, z => congrArg (doA L o.c o.k o.h :: ·) (runA_app _ y z)
theorem runA_len : ∀ (L : List Pr) (z : List OpD), (runA L z).length = z.length
  | _, [] => rfl
  | L, o :: z => by show (runA _ z).length + 1 = z.length + 1; rw [runA_len _ z]
theorem doP_le (L : List Pr) (c k v : Int) : (doP L c k v).length ≤ L.length + 1 := by
  by_cases h : Srt L ∧ okOp c
  · exact doP_len h.1 h.2 k v
  · rw [doP_bad h]; omega
theorem doP_s {L : List Pr} (hs : Srt L) (c k v : Int) : Srt (doP L c k v) := by
  by_cases h : okOp c
  · exact doP_srt hs h k v
  · rw [doP_bad (fun x => h x.2)]; exact hs
theorem runP_s : ∀ (L : List Pr) (z : List OpD), Srt L → Srt (runP L z)
  | _, [], h => h
  | L, o :: z, h => runP_s _ z (doP_s h _ _ _)
theorem runP_le : ∀ (L : List Pr) (z : List OpD), (runP L z).length ≤ L.length + z.length
  | _, [] => Nat.le_refl _
  | L, o :: z => by
    have h1 := runP_le (doP L o.c o.k o.v) z
    have h2 := doP_le L o.c o.k o.v
    show (runP _ z).length ≤ _
    simp only [List.length_cons]
    omega
theorem Ops.only {w w' : World} {T : Nat → Prop} {a : Option Addr} {cap : Nat} {l : List OpD} (h : Ops w a cap l) (o : Only T w w') (ha : ∀ ad, a = some ad → ¬ T ad.block) : Ops w' a cap l :=
  ⟨h.1, h.2.1, fun n q hq => by
    obtain ⟨b, of, rfl, h0, h1, h2, h3⟩ := h.2.2.1 n q hq
    have hb := ha _ rfl
    exact ⟨b, of, rfl, o.cell h0 hb, o.cell h1 hb, o.cell h2 hb, o.cell h3 hb⟩, h.2.2.2⟩

theorem infoAns : (Try.prog.info? 34).map (fun i => (i.zero, i.size, i.bytes)) = some (some (.agg #[.int .i64 0, .bool false, .int .i64 0, .int .i64 0, .int .i64 0, .slice none 0 0]), 6, 64) := by kernel_rfl
/-- So many empty answers. -/
def mkA (n : Nat) : Array Value := madeCells (Value.agg #[.int .i64 0, .bool false, .int .i64 0, .int .i64 0, .int .i64 0, .slice none 0 0]).cells (n * 6)

/-- Answers in a row of one's own in block g. -/
structure TR (w : World) (S : Nat → Prop) (g n : Nat) (Ds : List Ad) : Prop where
  ex : ∃ xs, w.ownsRow 0 34 6 (.slice (some ⟨g, 0, none⟩) n n) n xs ∧ ∀ i D, Ds[i]? = some D → ∃ aa ca, xs[i * 6]? = some (.int .i64 D.err) ∧ xs[i * 6 + 1]? = some (.bool D.ok) ∧ xs[i * 6 + 2]? = some (.int .i64 D.k) ∧ xs[i * 6 + 3]? = some (.int .i64 D.v) ∧ xs[i * 6 + 4]? = some (.int .i64 D.n) ∧ xs[i * 6 + 5]? = some (.slice aa D.ps.length ca) ∧ PRow w S (.slice aa D.ps.length ca) D.ps
theorem TR.made (w : World) (S : Nat → Prop) (n : Nat) (hn : n ≤ 2000) : TR (w.alloc (.cells (mkA n) 34)) S w.heap.size n [] :=
  ⟨_, World.ownsRow_lit (base := 0) (e := 34) (size := 6) w (mkA n) n (Nat.zero_le _) (by unfold maxLen; omega) (by simp [mkA, madeCells]), fun i D h => by simp at h⟩
theorem TR.only {w w' : World} {S T : Nat → Prop} {g n : Nat} {Ds : List Ad} (h : TR w S g n Ds) (o : Only T w w') (hg : ¬ T g) (hT : ∀ k, T k → S k) : TR w' S g n Ds := by
  obtain ⟨xs, h1, h2⟩ := h.ex
  refine ⟨xs, o.row h1 (fun k hk => by simp [Value.ownBlock] at hk; subst hk; exact hg), fun i D hi => ?_⟩
  obtain ⟨aa, ca, c0, c1, c2, c3, c4, c5, hr⟩ := h2 i D hi
  exact ⟨aa, ca, c0, c1, c2, c3, c4, c5, o.row hr.row (fun k hk ht => hr.av k hk (hT k ht)), hr.av⟩
theorem TR.below {w w' : World} {S : Nat → Prop} {g n : Nat} {Ds : List Ad} (h : TR w S g n Ds) (hb : Below w.heap.size w w') : TR w' S g n Ds := by
  obtain ⟨xs, h1, h2⟩ := h.ex
  have o : Only (fun _ => False) w w' := Only.ofBelow hb
  exact h.only o (fun f => f) (fun k f => f.elim)
theorem TR.lt {w : World} {S : Nat → Prop} {g n : Nat} {Ds : List Ad} (h : TR w S g n Ds) : g < w.heap.size := by
  obtain ⟨xs, h1, h2⟩ := h.ex
  exact (h1.lt g rfl).2
theorem TR.sub {w : World} {S S' : Nat → Prop} {g n : Nat} {Ds : List Ad} (h : TR w S g n Ds) (hS : ∀ k, k < w.heap.size → S' k → S k) : TR w S' g n Ds := by
  obtain ⟨xs, h1, h2⟩ := h.ex
  exact ⟨xs, h1, fun i D hi => by
    obtain ⟨aa, ca, c0, c1, c2, c3, c4, c5, hr⟩ := h2 i D hi
    exact ⟨aa, ca, c0, c1, c2, c3, c4, c5, hr.sub hS⟩⟩
/-- An answer as it lies at a place. -/
structure AnsAt (w : World) (S : Nat → Prop) (g o : Nat) (D : Ad) (aa : Option Addr) (ca : Nat) : Prop where
  c0 : w.cell? ⟨g, o, none⟩ = some (.int .i64 D.err)
  c1 : w.cell? ⟨g, o + 1, none⟩ = some (.bool D.ok)
  c2 : w.cell? ⟨g, o + 2, none⟩ = some (.int .i64 D.k)
  c3 : w.cell? ⟨g, o + 3, none⟩ = some (.int .i64 D.v)
  c4 : w.cell? ⟨g, o + 4, none⟩ = some (.int .i64 D.n)
  c5 : w.cell? ⟨g, o + 5, none⟩ = some (.slice aa D.ps.length ca)
  row : PRow w S (.slice aa D.ps.length ca) D.ps
theorem TR.at_ {w : World} {S : Nat → Prop} {g n : Nat} {Ds : List Ad} (h : TR w S g n Ds) (i : Nat) (D : Ad) (hD : Ds[i]? = some D) (hi : i < n) : ∃ aa ca, AnsAt w S g (i * 6) D aa ca := by
  obtain ⟨xs, h1, h2⟩ := h.ex
  obtain ⟨aa, ca, c0, c1, c2, c3, c4, c5, hr⟩ := h2 i D hD
  exact ⟨aa, ca, (h1.cellAt _ (by omega)).trans c0, (h1.cellAt _ (by omega)).trans c1, (h1.cellAt _ (by omega)).trans c2, (h1.cellAt _ (by omega)).trans c3, (h1.cellAt _ (by omega)).trans c4, (h1.cellAt _ (by omega)).trans c5, hr⟩
theorem TR.cell {w : World} {S : Nat → Prop} {g n : Nat} {Ds : List Ad} (h : TR w S g n Ds) (i : Nat) (hi : i < n * 6) : (∃ u, w.cell? ⟨g, i, none⟩ = some u) ∧ w.frozen? ⟨g, i, none⟩ = false := by
  obtain ⟨xs, h1, h2⟩ := h.ex
  exact ⟨⟨_, (h1.cellAt _ hi).trans (List.getElem?_eq_getElem (by rw [h1.1]; exact hi))⟩, h1.frozenAt _⟩
/-- One more answer is written. -/
theorem TR.put {w : World} {S : Nat → Prop} {g n : Nat} {Ds : List Ad} (h : TR w S g n Ds) (hg : S g) (D : Ad) (aa : Option Addr) (ca : Nat) (hr : PRow w S (.slice aa D.ps.length ca) D.ps) (hn : Ds.length < n) (i : Nat) (hi : i = Ds.length) :
    TR ((((((w.setCell ⟨g, i * 6, none⟩ (.int .i64 D.err)).setCell ⟨g, i * 6 + 1, none⟩ (.bool D.ok)).setCell ⟨g, i * 6 + 2, none⟩ (.int .i64 D.k)).setCell ⟨g, i * 6 + 3, none⟩ (.int .i64 D.v)).setCell ⟨g, i * 6 + 4, none⟩ (.int .i64 D.n)).setCell ⟨g, i * 6 + 5, none⟩ (.slice aa D.ps.length ca)) S g n (Ds ++ [D]) ∧
    Only (fun k => k = g) w ((((((w.setCell ⟨g, i * 6, none⟩ (.int .i64 D.err)).setCell ⟨g, i * 6 + 1, none⟩ (.bool D.ok)).setCell ⟨g, i * 6 + 2, none⟩ (.int .i64 D.k)).setCell ⟨g, i * 6 + 3, none⟩ (.int .i64 D.v)).setCell ⟨g, i * 6 + 4, none⟩ (.int .i64 D.n)).setCell ⟨g, i * 6 + 5, none⟩ (.slice aa D.ps.length ca)) := by
  subst hi
  obtain ⟨xs, h1, h2⟩ := h.ex
  have o : Only (fun k => k = g) w ((((((w.setCell ⟨g, Ds.length * 6, none⟩ (.int .i64 D.err)).setCell ⟨g, Ds.length * 6 + 1, none⟩ (.bool D.ok)).setCell ⟨g, Ds.length * 6 + 2, none⟩ (.int .i64 D.k)).setCell ⟨g, Ds.length * 6 + 3, none⟩ (.int .i64 D.v)).setCell ⟨g, Ds.length * 6 + 4, none⟩ (.int .i64 D.n)).setCell ⟨g, Ds.length * 6 + 5, none⟩ (.slice aa D.ps.length ca)) := by
    have s : ∀ {W2 : World} (k : Nat) (u : Value), Only (fun j => j = g) w W2 → Only (fun j => j = g) w (W2.setCell ⟨g, k, none⟩ u) := fun k u h => h.setCell (.inl rfl) u
    exact s _ _ (s _ _ (s _ _ (s _ _ (s _ _ (s _ _ (Only.refl _ _))))))
  refine ⟨⟨_, ((((((h1.stored _ _).1.stored _ _).1.stored _ _).1.stored _ _).1.stored _ _).1.stored _ _).1, fun i E hE => ?_⟩, o⟩
  have hx := h1.1
  by_cases hlt : i < Ds.length
  · rw [List.getElem?_append_left hlt] at hE
    obtain ⟨ab, cb, c0, c1, c2, c3, c4, c5, hq⟩ := h2 i E hE
    have k : ∀ j, j < 6 → ((((((xs.set (Ds.length * 6) (.int .i64 D.err)).set (Ds.length * 6 + 1) (.bool D.ok)).set (Ds.length * 6 + 2) (.int .i64 D.k)).set (Ds.length * 6 + 3) (.int .i64 D.v)).set (Ds.length * 6 + 4) (.int .i64 D.n)).set (Ds.length * 6 + 5) (.slice aa D.ps.length ca))[i * 6 + j]? = xs[i * 6 + j]? := fun j hj => by
      rw [List.getElem?_set_ne (by omega), List.getElem?_set_ne (by omega), List.getElem?_set_ne (by omega), List.getElem?_set_ne (by omega), List.getElem?_set_ne (by omega), List.getElem?_set_ne (by omega)]
    exact ⟨ab, cb, (k 0 (by omega)).trans c0, (k 1 (by omega)).trans c1, (k 2 (by omega)).trans c2, (k 3 (by omega)).trans c3, (k 4 (by omega)).trans c4, (k 5 (by omega)).trans c5, o.row hq.row (fun k hk e => hq.av k hk (e ▸ hg)), hq.av⟩
  · have hi : i = Ds.length := by
      have := (List.getElem?_eq_some_iff.1 hE).1
      rw [List.length_append, List.length_singleton] at this
      omega
    subst hi
    rw [List.getElem?_append_right (Nat.le_refl _), Nat.sub_self] at hE
    cases hE
    refine ⟨aa, ca, ?_, ?_, ?_, ?_, ?_, ?_, o.row hr.row (fun k hk e => hr.av k hk (e ▸ hg)), hr.av⟩
    · rw [List.getElem?_set_ne (by omega), List.getElem?_set_ne (by omega), List.getElem?_set_ne (by omega), List.getElem?_set_ne (by omega), List.getElem?_set_ne (by omega), List.getElem?_set_self (by omega)]
    · rw [List.getElem?_set_ne (by omega), List.getElem?_set_ne (by omega), List.getElem?_set_ne (by omega), List.getElem?_set_ne (by omega), List.getElem?_set_self (by simp only [List.length_set]; omega)]
    · rw [List.getElem?_set_ne (by omega), List.getElem?_set_ne (by omega), List.getElem?_set_ne (by omega), List.getElem?_set_self (by simp only [List.length_set]; omega)]
    · rw [List.getElem?_set_ne (by omega), List.getElem?_set_ne (by omega), List.getElem?_set_self (by simp only [List.length_set]; omega)]
    · rw [List.getElem?_set_ne (by omega), List.getElem?_set_self (by simp only [List.length_set]; omega)]
    · rw [List.getElem?_set_self (by simp only [List.length_set]; omega)]

/-- What (*model.Map).Run tells and leaves. -/
def RunIs (w : World) (S : Nat → Prop) (b : Nat) (L : List Pr) (zs : List OpD) (e : Ending) (w' : World) : Prop :=
  e = .returned (.slice (some ⟨w.heap.size, 0, none⟩) zs.length zs.length) ∧ TR w' (fun j => j < w.heap.size ∨ j = w.heap.size) w.heap.size zs.length (runA L zs) ∧ MapAt w' S b (runP L zs) ∧ Only (fun k => k = b) w w'

end Go.Proofs.Ytadfnbmogobopaa
