/- Slices of nodes: rows of one's own; the arena of NodeMakes and its row side by side. -/
import Derived.Test.YtpcfnnegialegaaNArgs
namespace Go.Proofs.Ytpcfnnegialegaa
open Go.RowKit
set_option linter.all false

def cellsN : List NodeD → List Value
  | [] => []
  | q :: l => .int .i64 q.key :: .int .i64 q.val :: .int .i64 q.left :: .int .i64 q.right :: .int .i64 q.size :: .int .i64 q.high :: cellsN l
theorem cellsN_len (l : List NodeD) : (cellsN l).length = l.length * 6 := by
  induction l with
  | nil => rfl
  | cons q l ih => simp only [cellsN, List.length_cons, ih]; omega
theorem cellsN_snoc (l : List NodeD) (q : NodeD) : cellsN (l ++ [q]) = cellsN l ++ [.int .i64 q.key, .int .i64 q.val, .int .i64 q.left, .int .i64 q.right, .int .i64 q.size, .int .i64 q.high] := by
  induction l with
  | nil => rfl
  | cons x l ih => simp [cellsN, ih]
theorem cellsN_get (l : List NodeD) : ∀ (n : Nat) (q : NodeD), l[n]? = some q → (cellsN l)[n * 6]? = some (.int .i64 q.key) ∧ (cellsN l)[n * 6 + 1]? = some (.int .i64 q.val) ∧ (cellsN l)[n * 6 + 2]? = some (.int .i64 q.left) ∧ (cellsN l)[n * 6 + 3]? = some (.int .i64 q.right) ∧ (cellsN l)[n * 6 + 4]? = some (.int .i64 q.size) ∧ (cellsN l)[n * 6 + 5]? = some (.int .i64 q.high) := by
  induction l with
  | nil => intro n q h; simp at h
  | cons x l ih =>
    intro n q h
    cases n with
    | zero => simp at h; subst h; simp [cellsN]
    | succ n =>
      simp only [List.getElem?_cons_succ] at h
      have := ih n q h
      have e : (n + 1) * 6 = n * 6 + 1 + 1 + 1 + 1 + 1 + 1 := by omega
      rw [e]
      simp only [cellsN, List.getElem?_cons_succ]
      exact this

/-- A row of nodes that a function makes for itself; its block is none of S. -/
structure NRow (w : World) (S : Nat → Prop) (v : Value) (l : List NodeD) : Prop where
  row : w.ownsRow 0 36 6 v l.length (cellsN l)
  av : ∀ k, v.ownBlock = some k → ¬ S k

theorem NRow.nil (w : World) (S : Nat → Prop) : NRow w S (.slice none 0 0) [] := ⟨World.ownsRow_nil w 0 _ 6, fun k hk => by simp [Value.ownBlock] at hk⟩
theorem NRow.below {w w' : World} {S : Nat → Prop} {v : Value} {l : List NodeD} (h : NRow w S v l) (hb : Below w.heap.size w w') : NRow w' S v l := by
  refine ⟨⟨h.row.1, ?_⟩, h.av⟩
  rcases h.row.2 with hn | ⟨g, cap, cur, rfl, hbb, hgg, rest⟩
  · exact .inl hn
  · refine .inr ⟨g, cap, cur, rfl, hbb, ?_, rest⟩
    rw [hb.block g (Array.getElem?_eq_some_iff.1 hgg).1]
    exact hgg
theorem NRow.sub {w : World} {S S' : Nat → Prop} {v : Value} {l : List NodeD} (h : NRow w S v l) (hS : ∀ k, k < w.heap.size → S' k → S k) : NRow w S' v l :=
  ⟨h.row, fun k hk hs => h.av k hk (hS k (h.row.lt k hk).2 hs)⟩
theorem NRow.form {w : World} {S : Nat → Prop} {v : Value} {l : List NodeD} (h : NRow w S v l) : ∃ ao cap, v = .slice ao l.length cap ∧ l.length ≤ cap ∧ cap ≤ maxLen := row_form h.row
/-- What a row's node number n holds. -/
theorem NRow.at {w : World} {S : Nat → Prop} {v : Value} {l : List NodeD} (h : NRow w S v l) (n : Nat) (q : NodeD) (hq : l[n]? = some q) :
    ∃ g cap, v = .slice (some ⟨g, 0, none⟩) l.length cap ∧ l.length ≤ cap ∧ cap ≤ maxLen ∧ w.cell? ⟨g, n * 6, none⟩ = some (.int .i64 q.key) ∧ w.cell? ⟨g, n * 6 + 1, none⟩ = some (.int .i64 q.val) ∧ w.cell? ⟨g, n * 6 + 2, none⟩ = some (.int .i64 q.left) ∧
      w.cell? ⟨g, n * 6 + 3, none⟩ = some (.int .i64 q.right) ∧ w.cell? ⟨g, n * 6 + 4, none⟩ = some (.int .i64 q.size) ∧ w.cell? ⟨g, n * 6 + 5, none⟩ = some (.int .i64 q.high) := by
  have hlt : n < l.length := (List.getElem?_eq_some_iff.1 hq).1
  obtain ⟨g, cap, rfl, h1, h2, _⟩ := row_at h.row (by omega)
  obtain ⟨a0, a1, a2, a3, a4, a5⟩ := cellsN_get l n q hq
  refine ⟨g, cap, rfl, h1, h2, ?_, ?_, ?_, ?_, ?_, ?_⟩
  · rw [h.row.cellAt _ (by omega)]; exact a0
  · rw [h.row.cellAt _ (by omega)]; exact a1
  · rw [h.row.cellAt _ (by omega)]; exact a2
  · rw [h.row.cellAt _ (by omega)]; exact a3
  · rw [h.row.cellAt _ (by omega)]; exact a4
  · rw [h.row.cellAt _ (by omega)]; exact a5

theorem infoNode : (Try.prog.info? 36).map (fun i => (i.zero, i.size, i.bytes)) = some (some (.agg #[.int .i64 0, .int .i64 0, .int .i64 0, .int .i64 0, .int .i64 0, .int .i64 0]), 6, 48) := by kernel_rfl

/-- A node is appended onto a row of one's own. -/
theorem wpList_pushN {w : World} {ops : Array Oper} {rest : List Oper} {o : Oper} {a : Act} {Q : Exit → Act → World → Prop} (hgd : o.guard = none) (s x : Operand)
    (ho : o.op = .call { callee := .builtin .append, args := #[s, x], argTypes := #[27, 27] })
    (S : Nat → Prop) (v : Value) (l : List NodeD) (nd : NodeD) (hs : a.eval s = v) (h : NRow w S v l) (hS : ∀ k, S k → k < w.heap.size)
    (g : Nat) (hx : a.eval x = .slice (some ⟨g, 0, none⟩) 1 1) (hg : g = w.heap.size) (hl : l.length ≤ 1000000)
    (H : ∀ ao cap w', cap ≤ maxLen → l.length + 1 ≤ cap → NRow w' S (.slice ao (l.length + 1) cap) (l ++ [nd]) → (∀ q c, S q.block → w.cell? q = some c → w'.cell? q = some c) → Only (fun k => ¬ S k) w w' →
      wpList Try.prog ops Q rest (a.put o.dst (.slice ao (l.length + 1) cap)) w') :
    wpList Try.prog ops Q (o :: rest) a (w.alloc (.cells #[.int .i64 nd.key, .int .i64 nd.val, .int .i64 nd.left, .int .i64 nd.right, .int .i64 nd.size, .int .i64 nd.high] 36)) := by
  subst hg
  have hA : Below w.heap.size w (w.alloc (.cells #[.int .i64 nd.key, .int .i64 nd.val, .int .i64 nd.left, .int .i64 nd.right, .int .i64 nd.size, .int .i64 nd.high] 36)) := (Below.refl _ _).alloc (Nat.le_refl _) _
  have h' := h.below hA
  obtain ⟨i, hi, hz, hs1, hs2⟩ := info_parts infoNode
  refine wpList_own_append hgd s x 27 ho 36 i _ 6 48 Try.underlying27 hi hz hs1 hs2 rfl (by decide) v l.length (cellsN l) hs h'.row _ 1 [.int .i64 nd.key, .int .i64 nd.val, .int .i64 nd.left, .int .i64 nd.right, .int .i64 nd.size, .int .i64 nd.high] hx
    (.inr ⟨_, _, rfl, cells_new _ #[.int .i64 nd.key, .int .i64 nd.val, .int .i64 nd.left, .int .i64 nd.right, .int .i64 nd.size, .int .i64 nd.high] _⟩) rfl (by intro y hy; simp at hy; rcases hy with rfl | rfl | rfl | rfl | rfl | rfl <;> rfl) (by unfold maxLen; omega) (by omega) ?_
  intro v' w' hown hgr hk
  obtain ⟨ao, cap, rfl, h1, h2⟩ := row_form hown
  have hav : ∀ k, (Value.slice ao (l.length + 1) cap).ownBlock = some k → ¬ S k := by
    intro j hj hs
    rcases hk j hj with e | e
    · exact h.av j e hs
    · have := hS j hs
      have := hA.size
      omega
  refine H ao cap w' h2 h1 ⟨by simpa [cellsN_snoc] using hown, hav⟩ (fun q c hq hc => ?_) ?_
  · have hne : some q.block ≠ v.ownBlock := fun e => h.av q.block e.symm hq
    exact hgr.cell (((hA.cell (World.block_lt_of_cell? w q hc)).trans hc)) hne
  · exact ((Only.ofBelow hA).mono (fun i hi hlt => absurd hlt (by omega))).grown hgr (fun j hj _ hs => h.av j hj hs)

/-! ### The arena of a law, and its row of nodes, side by side -/

/-- Since w: the arena at p with items L, a row 'out' of nodes M; no block in common. -/
def Mk (w wr : World) (p : Nat) (room : Int) (L : List It) (out : Value) (M : List NodeD) : Prop :=
  ∃ F : Nat → Prop, (∀ k, F k → w.heap.size ≤ k ∧ k < wr.heap.size) ∧ Arena wr p F room 0 L ∧ NRow wr (fun k => F k ∨ k < w.heap.size) out M ∧ Below w.heap.size w wr

section
variable {w wr W w' : World} {p : Nat} {room : Int} {L : List It} {out : Value} {M : List NodeD}

theorem Mk.b (h : Mk w wr p room L out M) : Below w.heap.size w wr := h.choose_spec.2.2.2
theorem Mk.below (h : Mk w wr p room L out M) (hb : Below wr.heap.size wr w') : Mk w w' p room L out M := by
  obtain ⟨F, h1, h2, h3, h4⟩ := h
  exact ⟨F, fun k hk => ⟨(h1 k hk).1, Nat.lt_of_lt_of_le (h1 k hk).2 hb.size⟩, h2.below hb, h3.below hb, h4.trans (hb.mono h4.size)⟩
theorem Mk.get (h : Mk w wr p room L out M) (id : Int) (hk : kindL L id = 1) :
    Calls Try.prog 11 #[.pointer (some ⟨p, 0, none⟩), .int .i64 id] wr fun e w' =>
      e = .returned (.tuple #[.agg #[.int .i64 (valL L id 0), .int .i64 (valL L id 1), .int .i64 (valL L id 2), .int .i64 (valL L id 3), .int .i64 (valL L id 4), .int .i64 (valL L id 5)], .bool true]) ∧ Below wr.heap.size wr w' := by
  obtain ⟨F, h1, h2, h3, h4⟩ := h
  exact get_yes id wr p F room 0 L h2 hk
theorem Mk.get_no (h : Mk w wr p room L out M) (id : Int) (hk : kindL L id ≠ 1) :
    Calls Try.prog 11 #[.pointer (some ⟨p, 0, none⟩), .int .i64 id] wr fun e w' =>
      e = .returned (.tuple #[.agg #[.int .i64 0, .int .i64 0, .int .i64 0, .int .i64 0, .int .i64 0, .int .i64 0], .bool false]) ∧ Below wr.heap.size wr w' := by
  obtain ⟨F, h1, h2, h3, h4⟩ := h
  exact Go.Proofs.Ytpcfnnegialegaa.get_no id wr p F room 0 L h2 hk

/-- Make, in a world W that has new blocks since wr: these stay as they are. -/
theorem Mk.make (h : Mk w wr p room L out M) (hb : Below wr.heap.size wr W) (k v lt rt sl hl sr hr n s hh : Int) (h1 : Hung L lt sl hl) (h2 : Hung L rt sr hr) (hroom : (L.length : Int) < room)
    (b1 : 0 ≤ sl ∧ sl ≤ 4611686018427387900) (b2 : 0 ≤ sr ∧ sr ≤ 4611686018427387900) (b3 : 0 ≤ hl ∧ hl ≤ 4611686018427387900) (b4 : 0 ≤ hr ∧ hr ≤ 4611686018427387900)
    (hn : n = L.length + 1) (hs : s = sl + sr + 1) (hhh : hh = max hl hr + 1) :
    Calls Try.prog 10 #[.pointer (some ⟨p, 0, none⟩), .agg #[.int .i64 k, .int .i64 v], .int .i64 lt, .int .i64 rt] W fun e w' =>
      e = .returned (.tuple #[.int .i64 n, .int .i64 0]) ∧ Mk w w' p room (L ++ [(1, [k, v, lt, rt, s, hh])]) out M ∧ (∀ q c, wr.heap.size ≤ q.block → W.cell? q = some c → w'.cell? q = some c) := by
  have es : oneM sl sr = s := by rw [oneM_small b1.1 (by omega) (by omega)]; omega
  have eh : oneM (max hl hr) 0 = hh := by rw [oneM_high (by omega) (by omega)]; omega
  have hm := h.below hb
  obtain ⟨F, f1, f2, f3, f4⟩ := h
  have hF : ∀ j, F j → j < wr.heap.size := fun j hj => (f1 j hj).2
  have fA := f2.below hb
  have fR := f3.below hb
  have fB := f4.trans (hb.mono f4.size)
  subst hn
  refine (nmake_ok k v fA h1 h2 hroom).mono fun e w' ⟨he, ha, ho⟩ => ?_
  rw [es, eh] at ha
  refine ⟨by rw [he]; simp, ⟨fun j => Plus F W w' j, fun j hj => ?_, ha, ⟨ho.row fR.row (fun j hj hs => fR.av j hj (.inl hs)), fun j hj hs => ?_⟩, fB.trans (ho.below (fun i hi => (f1 i hi).1) fB.size)⟩, fun q c hq hc => ho.cell hc (fun hs => by have := hF _ hs; omega)⟩
  · rcases hj with hj | hj
    · exact ⟨(f1 j hj).1, Nat.lt_of_lt_of_le (Nat.lt_of_lt_of_le (hF j hj) hb.size) ho.size⟩
    · exact ⟨Nat.le_trans fB.size hj.1, hj.2⟩
  · have hlt := (fR.row.lt j hj).2
    rcases hs with (hs | hs) | hs
    · exact fR.av j hj (.inl hs)
    · omega
    · exact fR.av j hj (.inr hs)
theorem Mk.make_full (h : Mk w W p room L out M) (k v lt rt sl hl sr hr : Int) (h1 : Hung L lt sl hl) (h2 : Hung L rt sr hr) (hroom : room = L.length) :
    Calls Try.prog 10 #[.pointer (some ⟨p, 0, none⟩), .agg #[.int .i64 k, .int .i64 v], .int .i64 lt, .int .i64 rt] W fun e w' => e = .returned (.tuple #[.int .i64 0, .int .i64 2]) ∧ Below W.heap.size W w' := by
  obtain ⟨F, f1, f2, f3, f4⟩ := h
  exact nmake_full k v f2 h1 h2 hroom
theorem Mk.make_bad (h : Mk w W p room L out M) (k v lt rt : Int) (hbad : ¬ (HungOk L lt ∧ HungOk L rt)) :
    Calls Try.prog 10 #[.pointer (some ⟨p, 0, none⟩), .agg #[.int .i64 k, .int .i64 v], .int .i64 lt, .int .i64 rt] W fun e w' => e = .returned (.tuple #[.int .i64 0, .int .i64 1]) ∧ Below W.heap.size W w' := by
  obtain ⟨F, f1, f2, f3, f4⟩ := h
  exact nmake_bad k v lt rt W p F room 0 L f2 hbad
end
end Go.Proofs.Ytpcfnnegialegaa
