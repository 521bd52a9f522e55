/- Rows of operations that a function makes for itself; puts one behind the other under Eager. No condition: definitions and lemmas. -/
import Derived.Test.YtpdliokpbnpppaaExA
namespace Go.Proofs.Ytpdliokpbnpppaa
open Go.RowKit Go.Deep Go.ChangeShapes Go.WideShapes
set_option linter.all false
set_option maxRecDepth 20000

def cellsO : List OpD → List Value
  | [] => []
  | q :: l => .int .i64 q.c :: .int .i64 q.k :: .int .i64 q.h :: .int .i64 q.v :: cellsO l
theorem cellsO_len (l : List OpD) : (cellsO l).length = l.length * 4 := by
  induction l with
  | nil => rfl
  | cons q l ih => simp only [cellsO, List.length_cons, ih]; omega
theorem cellsO_app (l m : List OpD) : cellsO (l ++ m) = cellsO l ++ cellsO m := by
  induction l with
  | nil => rfl
  | cons q l ih => simp [cellsO, ih]
theorem cellsO_one (l : List OpD) : ∀ u ∈ cellsO l, u.oneCell' = true := by
  induction l with
  | nil => intro u hu; cases hu
  | cons q l ih =>
    intro u hu
    simp only [cellsO, List.mem_cons] at hu
    rcases hu with rfl | rfl | rfl | rfl | hu
    · rfl
    · rfl
    · rfl
    · rfl
    · exact ih u hu
theorem cellsO_get : ∀ (l : List OpD) (i : Nat) (q : OpD), l[i]? = some q → (cellsO l)[i * 4]? = some (.int .i64 q.c) ∧ (cellsO l)[i * 4 + 1]? = some (.int .i64 q.k) ∧ (cellsO l)[i * 4 + 2]? = some (.int .i64 q.h) ∧ (cellsO l)[i * 4 + 3]? = some (.int .i64 q.v)
  | q :: l, 0, q', h => by simp at h; subst h; exact ⟨rfl, rfl, rfl, rfl⟩
  | q :: l, i + 1, q', h => by
    have ih := cellsO_get l i q' (by simpa using h)
    have e : ∀ j, (i + 1) * 4 + j = (i * 4 + j) + 4 := fun j => by omega
    refine ⟨?_, ?_, ?_, ?_⟩
    · rw [show (i + 1) * 4 = (i * 4) + 4 by omega]; exact ih.1
    · rw [e]; exact ih.2.1
    · rw [e]; exact ih.2.2.1
    · rw [e]; exact ih.2.2.2
/-- A row of operations of one's own. -/
structure ORow (w : World) (S : Nat → Prop) (v : Value) (l : List OpD) : Prop where
  row : w.ownsRow 0 29 4 v l.length (cellsO l)
  av : ∀ k, v.ownBlock = some k → ¬ S k
theorem ORow.nil (w : World) (S : Nat → Prop) : ORow w S (.slice none 0 0) [] := ⟨World.ownsRow_nil w 0 _ 4, fun k hk => by simp [Value.ownBlock] at hk⟩
theorem ORow.below {w w' : World} {S : Nat → Prop} {v : Value} {l : List OpD} (h : ORow w S v l) (hb : Below w.heap.size w w') : ORow w' S v l := by
  refine ⟨⟨h.row.1, ?_⟩, h.av⟩
  rcases h.row.2 with hn | ⟨g, cap, cur, rfl, hbb, hgg, rest⟩
  · exact .inl hn
  · refine .inr ⟨g, cap, cur, rfl, hbb, ?_, rest⟩
    rw [hb.block g (Array.getElem?_eq_some_iff.1 hgg).1]
    exact hgg
theorem ORow.sub {w : World} {S S' : Nat → Prop} {v : Value} {l : List OpD} (h : ORow w S v l) (hS : ∀ k, k < w.heap.size → S' k → S k) : ORow w S' v l :=
  ⟨h.row, fun k hk hs => h.av k hk (hS k (h.row.lt k hk).2 hs)⟩
theorem ORow.form {w : World} {S : Nat → Prop} {v : Value} {l : List OpD} (h : ORow w S v l) : ∃ ao cap, v = .slice ao l.length cap ∧ l.length ≤ cap ∧ cap ≤ maxLen := row_form h.row
/-- The row is read. -/
theorem ORow.ops {w : World} {S : Nat → Prop} {a : Option Addr} {n cap : Nat} {l : List OpD} (h : ORow w S (.slice a n cap) l) (hw : ∀ q ∈ l, q.wf) : n = l.length ∧ Ops w a cap l := by
  obtain ⟨ao, cap', e, h1, h2⟩ := h.form
  simp only [Value.slice.injEq] at e
  obtain ⟨rfl, rfl, rfl⟩ := e
  refine ⟨rfl, h1, h2, fun i q hq => ?_, hw⟩
  have hlt : i < l.length := (List.getElem?_eq_some_iff.1 hq).1
  obtain ⟨g, cap2, e, _⟩ := row_at h.row (by omega)
  simp only [Value.slice.injEq] at e
  obtain ⟨rfl, -, rfl⟩ := e
  obtain ⟨c0, c1, c2, c3⟩ := cellsO_get l i q hq
  refine ⟨g, 0, rfl, ?_, ?_, ?_, ?_⟩
  · rw [Nat.zero_add, h.row.cellAt _ (by omega)]; exact c0
  · rw [Nat.zero_add, h.row.cellAt _ (by omega)]; exact c1
  · rw [Nat.zero_add, h.row.cellAt _ (by omega)]; exact c2
  · rw [Nat.zero_add, h.row.cellAt _ (by omega)]; exact c3
theorem infoOp : (Try.prog.info? 29).map (fun i => (i.zero, i.size, i.bytes)) = some (some (.agg #[.int .i64 0, .int .i64 0, .int .i64 0, .int .i64 0]), 4, 32) := by kernel_rfl
section
variable {w : World} {ops : Array Oper} {o : Oper} {a : Act} {K : Act → World → Prop} {Q : Exit → Act → World → Prop} {E : Prop}
theorem orow_post {w w' : World} {S : Nat → Prop} {v v' : Value} {l news : List OpD} (h : ORow w S v l) (hS : ∀ k, S k → k < w.heap.size)
    (hown : w'.ownsRow 0 29 4 v' (l.length + news.length) (cellsO l ++ cellsO news)) (hgr : w.grownBy w' v.ownBlock) (hk : ∀ k, v'.ownBlock = some k → v.ownBlock = some k ∨ w.heap.size ≤ k) :
    ∃ ao cap, v' = .slice ao (l.length + news.length) cap ∧ cap ≤ maxLen ∧ l.length + news.length ≤ cap ∧ ORow w' S v' (l ++ news) ∧ Only (fun k => ¬ S k) w w' := by
  obtain ⟨ao, cap, rfl, h1, h2⟩ := row_form hown
  refine ⟨ao, cap, rfl, h2, h1, ⟨by rw [List.length_append, cellsO_app]; exact hown, fun j hj hs => ?_⟩, (Only.refl _ _).grown hgr (fun j hj _ hs => h.av j hj hs)⟩
  rcases hk j hj with e | e
  · exact h.av j e hs
  · have := hS j hs; omega
/-- Operations are appended onto a row of one's own. -/
theorem wpList_orow {rest : List Oper} (hgd : o.guard = none) (s x : Operand) (hop : o.op = Op.call { callee := Callee.builtin Builtin.append, args := #[s, x], argTypes := #[22, 22] })
    (S : Nat → Prop) (v : Value) (l news : List OpD) (hs : a.eval s = v) (h : ORow w S v l) (hS : ∀ k, S k → k < w.heap.size)
    (xv : Value) (hx : a.eval x = xv) (hsrc : Source w xv news.length (cellsO news)) (hl : l.length + news.length ≤ 1000000) (n : Nat) (hn : l.length + news.length = n) (ls : List OpD) (hls : l ++ news = ls)
    (H : ∀ ao cap w', cap ≤ maxLen → n ≤ cap → ORow w' S (.slice ao n cap) ls → Only (fun k => ¬ S k) w w' → wpList Try.prog ops Q rest (a.put o.dst (.slice ao n cap)) w') :
    wpList Try.prog ops Q (o :: rest) a w := by
  subst hn; subst hls
  obtain ⟨i, hi, hz, hs1, hs2⟩ := info_parts infoOp
  refine wpList_own_append hgd s x 22 hop 29 i _ 4 32 Try.underlying22 hi hz hs1 hs2 rfl (by decide) v l.length (cellsO l) hs h.row xv news.length (cellsO news) hx hsrc (cellsO_len news) (cellsO_one news) (by unfold maxLen; omega) (by omega) ?_
  intro v' w' hown hgr hk
  obtain ⟨ao, cap, rfl, h1, h2, h3, h4⟩ := orow_post h hS hown hgr hk
  exact H ao cap w' h1 h2 h3 h4
end
theorem src_oneO {w : World} (q : OpD) : Source (w.alloc (.cells #[.int .i64 q.c, .int .i64 q.k, .int .i64 q.h, .int .i64 q.v] 29)) (.slice (some ⟨w.heap.size, 0, none⟩) 1 1) [q].length (cellsO [q]) :=
  .inr ⟨_, _, rfl, cells_new _ #[.int .i64 q.c, .int .i64 q.k, .int .i64 q.h, .int .i64 q.v] _⟩
section
variable {H : Type} {enc : TypeId × Value → H} {w : World} {fuel : Nat} {x : DataW H × List MemPlace}
theorem open_riw {v : Value} (h : DataW.trod enc Try.prog w 0 (fun _ => true) true fuel 54 [v] = some x) : ∃ a cap l, v = .slice a l.length cap ∧ RI w a cap l ∧ ∀ n ∈ l, (Lit.int .i64 n).wf = true := by
  rcases open_ints Try.underlying54 Try.underlying3 (by kernel_rfl) h with ⟨hcs, _⟩ | ⟨y, l, c, zs, hcs, _, hl, hm, hz, _, hcell, hwz⟩
  · simp at hcs
    subst hcs
    exact ⟨none, 0, [], rfl, RI.none w _ _ (Nat.zero_le _), fun n hn => by cases hn⟩
  · simp at hcs hz
    subst hcs
    have hlen : (zs.take l).length = l := by simp; omega
    refine ⟨some y, c, zs.take l, by rw [hlen], ⟨by rw [hlen]; exact hl, hm, fun n v hn => ?_⟩, fun n hn => hwz n (List.mem_of_mem_take hn)⟩
    have hnl : n < l := by
      have := (List.getElem?_eq_some_iff.1 hn).1
      omega
    rw [List.getElem?_take_of_lt hnl] at hn
    have hc := hcell n (by omega)
    obtain ⟨b, o, spot⟩ := y
    have hs : spot = none := by
      have h0 := hcell 0 (by omega)
      simpa [Addr.add] using World.cell?_spot h0
    subst hs
    rw [add_lit] at hc
    exact ⟨b, o, rfl, by rw [hc]; simp [List.getD, hn]⟩
end
/-! ### Puts one behind the other -/
def ez : Nat → List Int → List OpD
  | _, [] => []
  | n, k :: r => ⟨1, k, 0, (n : Int)⟩ :: ez (n + 1) r
theorem ez_len : ∀ (n : Nat) (l : List Int), (ez n l).length = l.length
  | _, [] => rfl
  | n, k :: r => congrArg (· + 1) (ez_len (n + 1) r)
theorem ez_app : ∀ (n : Nat) (a b : List Int), ez n (a ++ b) = ez n a ++ ez (n + a.length) b
  | n, [], b => by simp [ez]
  | n, k :: r, b => by
    simp only [List.cons_append, ez, ez_app (n + 1) r b, List.length_cons]
    rw [show n + 1 + r.length = n + (r.length + 1) by omega]
theorem ez_snoc {l : List Int} {i : Nat} {k : Int} (h : l[i]? = some k) : ez 0 (l.take (i + 1)) = ez 0 (l.take i) ++ [⟨1, k, 0, (i : Int)⟩] := by
  have hl := (List.getElem?_eq_some_iff.1 h).1
  rw [take_snoc h, ez_app, List.length_take, Nat.min_eq_left (by omega), Nat.zero_add]
  rfl
theorem ez_at : ∀ {l : List Int} {n i : Nat} {k : Int}, l[i]? = some k → (ez n l)[i]? = some ⟨1, k, 0, ((n + i : Nat) : Int)⟩
  | _ :: r, n, 0, k, h => by simp at h; subst h; rfl
  | _ :: r, n, i + 1, k, h => by
    have := ez_at (l := r) (n := n + 1) (i := i) (by simpa using h)
    rw [show n + (i + 1) = n + 1 + i by omega]
    exact this
theorem ez_wf {l : List Int} (hw : ∀ n ∈ l, (Lit.int .i64 n).wf = true) (hl : l.length ≤ 40) : ∀ q ∈ ez 0 l, q.wf := by
  intro q hq
  obtain ⟨i, hi⟩ := List.getElem?_of_mem hq
  have hil := (List.getElem?_eq_some_iff.1 hi).1
  rw [ez_len] at hil
  have h1 := ez_at (l := l) (n := 0) (List.getElem?_eq_getElem hil)
  rw [hi] at h1
  cases h1
  refine ⟨(show (Lit.int .i64 1).wf = true by decide), hw _ (List.getElem_mem hil), (show (Lit.int .i64 0).wf = true by decide), ?_⟩
  have e1 : IntKind.i64.min = -9223372036854775808 := by decide
  have e2 : IntKind.i64.max = 9223372036854775807 := by decide
  simp [Lit.wf]
  omega
theorem ez_put {L : List Pr} (hs : Srt L) (k v : Int) : doP L 1 k v = withL L k v := doP_put hs ⟨by decide, by decide⟩ k v rfl
theorem runP_keys : ∀ (l : List Int) (n : Nat) {L : List Pr}, Srt L → ∀ z ∈ runP L (ez n l), z.1 ∈ l ∨ z ∈ L
  | [], _, _, _, z, h => .inr h
  | k :: r, n, L, hs, z, h => by
    have hs2 : Srt (doP L 1 k (n : Int)) := doP_s hs 1 k _
    rcases runP_keys r (n + 1) hs2 z h with h | h
    · exact .inl (List.mem_cons_of_mem _ h)
    · rcases doP_in hs ⟨by decide, by decide⟩ h with h | h
      · exact .inr h
      · exact .inl (by rw [h]; exact List.mem_cons_self)
theorem sub_lenI : ∀ {l m : List Int}, l.Nodup → (∀ x ∈ l, x ∈ m) → l.length ≤ m.length := by
  intro l
  induction l with
  | nil => intro m _ _; simp
  | cons a l ih =>
    intro m hn hs
    obtain ⟨h1, h2⟩ := List.nodup_cons.1 hn
    have ha := hs a List.mem_cons_self
    have hle := ih (m := m.erase a) h2 (fun x hx => (List.mem_erase_of_ne (fun e : x = a => h1 (by rw [← e]; exact hx))).2 (hs x (List.mem_cons_of_mem _ hx)))
    rw [List.length_erase_of_mem ha] at hle
    have := List.length_pos_of_mem ha
    simp only [List.length_cons]
    omega
theorem sub_nodup : ∀ {ks l : List Int}, l.Nodup → (∀ x ∈ l, x ∈ ks) → ks.length ≤ l.length → ks.Nodup := by
  intro ks
  induction ks with
  | nil => intro l _ _ _; exact List.nodup_nil
  | cons k r ih =>
    intro l hn hs hl
    refine List.nodup_cons.2 ⟨fun hk => ?_, ?_⟩
    · have := sub_lenI (m := r) hn (fun x hx => by
        rcases List.mem_cons.1 (hs x hx) with e | e
        · rw [e]; exact hk
        · exact e)
      simp only [List.length_cons] at hl
      omega
    · refine ih (l := l.erase k) (hn.erase k) (fun x hx => ?_) ?_
      · have h1 := List.mem_of_mem_erase hx
        have h2 : x ≠ k := fun e => by
          subst e
          exact (List.Nodup.not_mem_erase hn) hx
        rcases List.mem_cons.1 (hs x h1) with e | e
        · exact absurd e h2
        · exact e
      · by_cases hk : k ∈ l
        · rw [List.length_erase_of_mem hk]; simp only [List.length_cons] at hl; omega
        · rw [List.erase_of_not_mem hk]; simp only [List.length_cons] at hl; omega
theorem ez_nodup {l : List Int} (h : l.length ≤ (runP [] (ez 0 l)).length) : l.Nodup := by
  have hs := runP_s [] (ez 0 l) Srt.nil
  refine sub_nodup (l := (runP [] (ez 0 l)).map Prod.fst) ?_ (fun x hx => ?_) (by rw [List.length_map]; exact h)
  · have : List.Pairwise (fun a b : Int => a < b) ((runP [] (ez 0 l)).map Prod.fst) := by
      rw [List.pairwise_map]; exact hs
    exact this.imp (fun {a b} h e => by omega)
  · obtain ⟨z, hz, rfl⟩ := List.mem_map.1 hx
    rcases runP_keys l 0 Srt.nil z hz with h | h
    · exact h
    · cases h
theorem eager_chn {l : List Int} {f : Nat → List Nd} (hc : Chn 1 (-1) 2 (-1) 3 (ez 0 l) f) (f0 : f 0 = oneN []) (hl : l.length ≤ 40) : ∀ i, i ≤ l.length → ∃ s, Eg (l.take i) (f i) s := by
  intro i
  induction i with
  | zero => intro _; rw [f0]; exact ⟨_, Eg.zero⟩
  | succ i ih =>
    intro hi
    obtain ⟨s, hE⟩ := ih (by omega)
    have hk : l[i]? = some l[i] := List.getElem?_eq_getElem (by omega)
    obtain ⟨s2, hT, hD⟩ := hc i _ (ez_at hk)
    obtain rfl := hT.uniq hE.t
    obtain ⟨s3, g1, _, _⟩ := doS_is hT hD
    rw [take_snoc hk]
    exact ⟨s3, hE.step (by rw [List.length_take]; omega) (by decide) hD g1⟩
theorem eager_two {l : List Int} {f : Nat → List Nd} (hc : Chn 1 (-1) 2 (-1) 3 (ez 0 l) f) (f0 : f 0 = oneN []) (hl : l.length ≤ 40) (h2 : 2 ≤ (runP [] (ez 0 l)).length) (h : l.length ≤ (runP [] (ez 0 l)).length) {s : Sh} (hT : Tr (f l.length) s 0) : 2 ≤ s.lvs.length := by
  obtain ⟨s', hE⟩ := eager_chn hc f0 hl l.length (Nat.le_refl _)
  rw [List.take_of_length_le (Nat.le_refl _)] at hE
  obtain rfl := hE.t.uniq hT
  have h3 := runP_le [] (ez 0 l)
  rw [ez_len] at h3
  simp at h3
  exact hE.e2 (ez_nodup h) (by omega)
end Go.Proofs.Ytpdliokpbnpppaa

