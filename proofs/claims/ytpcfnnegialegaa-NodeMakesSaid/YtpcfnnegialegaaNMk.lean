/- The append of NodeMakes' row; what its steps make. -/
import Derived.Test.YtpcfnnegialegaaNRow
import Derived.Test.YtpcfnnegialegaaNTree
namespace Go.Proofs.Ytpcfnnegialegaa
open Go.RowKit
set_option linter.all false

/-- The items of the nodes made. -/
def itN (q : NodeD) : It := (1, [q.key, q.val, q.left, q.right, q.size, q.high])
theorem itN_at (M : List NodeD) (i : Nat) (q : NodeD) (h : M[i]? = some q) (t : Int) (ht : t = (i : Int) + 1) : itemAt (M.map itN) t = some (1, [q.key, q.val, q.left, q.right, q.size, q.high]) := by
  subst ht
  unfold itemAt
  rw [if_neg (by omega), show ((i : Int) + 1 - 1).toNat = i by omega, List.getElem?_map, h]
  rfl
theorem itN_kind (M : List NodeD) (t : Int) (h : t < 1 ∨ (M.length : Int) < t) : kindL (M.map itN) t = 0 := by
  unfold kindL itemAt
  rcases h with h | h
  · rw [if_pos h]; rfl
  · by_cases h1 : t < 1
    · rw [if_pos h1]; rfl
    · rw [if_neg h1, List.getElem?_eq_none (by rw [List.length_map]; omega)]; rfl

/-- The sizes and heights of the nodes made are small. -/
def Small (M : List NodeD) : Prop := ∀ (i : Nat) (q : NodeD), M[i]? = some q → 1 ≤ q.size ∧ q.size ≤ 1099511627776 ∧ 1 ≤ q.high ∧ q.high ≤ (i : Int) + 1
theorem Small.nil : Small [] := fun i q h => by simp at h
theorem Small.snoc {M : List NodeD} (h : Small M) (q : NodeD) (h1 : 1 ≤ q.size) (h2 : q.size ≤ 1099511627776) (h3 : 1 ≤ q.high) (h4 : q.high ≤ (M.length : Int) + 1) : Small (M ++ [q]) := by
  intro i x hx
  by_cases hi : i < M.length
  · rw [List.getElem?_append_left hi] at hx; exact h i x hx
  · rw [List.getElem?_append_right (by omega)] at hx
    obtain rfl : i = M.length := by
      rcases Nat.lt_or_ge (i - M.length) 1 with h | h
      · omega
      · rw [List.getElem?_eq_none (by simpa using h)] at hx; cases hx
    simp at hx
    subst hx
    exact ⟨h1, h2, h3, h4⟩

/-- What hangs: nothing, or a node made: its size, its height. -/
def hangs (M : List NodeD) (t sz hg : Int) : Prop := (t = 0 ∧ sz = 0 ∧ hg = 0) ∨ ∃ (i : Nat) (q : NodeD), t = (i : Int) + 1 ∧ M[i]? = some q ∧ sz = q.size ∧ hg = q.high
theorem hangs_of (M : List NodeD) (t : Int) (h0 : 0 ≤ t) (h1 : t ≤ M.length) : ∃ sz hg, hangs M t sz hg := by
  by_cases ht : t = 0
  · exact ⟨0, 0, .inl ⟨ht, rfl, rfl⟩⟩
  · obtain ⟨i, hi⟩ : ∃ i : Nat, t = (i : Int) + 1 := ⟨(t - 1).toNat, by omega⟩
    have hlt : i < M.length := by omega
    exact ⟨_, _, .inr ⟨i, M[i], hi, List.getElem?_eq_getElem hlt, rfl, rfl⟩⟩
theorem hangs_hung {M : List NodeD} {t sz hg : Int} (hS : Small M) (hM : M.length ≤ 1000) (h : hangs M t sz hg) : Hung (M.map itN) t sz hg ∧ 0 ≤ sz ∧ sz ≤ 1099511627776 ∧ 0 ≤ hg ∧ hg ≤ M.length := by
  rcases h with ⟨rfl, rfl, rfl⟩ | ⟨i, q, rfl, hq, rfl, rfl⟩
  · exact ⟨Hung.zero _, by omega, by omega, by omega, by omega⟩
  · obtain ⟨a, b, c, d⟩ := hS i q hq
    have hlt := (List.getElem?_eq_some_iff.1 hq).1
    obtain ⟨e1, e2, e3⟩ := node_sizes (itN_at M i q hq _ rfl)
    exact ⟨⟨e3, e1, e2, by omega, by omega, by omega, by omega⟩, by omega, by omega, by omega, by omega⟩

section
variable {w wr W w' : World} {p : Nat} {room : Int} {L : List It} {out : Value} {M : List NodeD}

theorem Mk.pushed {L : List It} (h : Mk w W p room L out M) (nd : NodeD) {ops : Array Oper} {rest : List Oper} {o : Oper} {a : Act} {Q : Exit → Act → World → Prop} (hgd : o.guard = none) (s x : Operand)
    (ho : o.op = .call { callee := .builtin .append, args := #[s, x], argTypes := #[27, 27] })
    (hs : a.eval s = out) (g : Nat) (hx : a.eval x = .slice (some ⟨g, 0, none⟩) 1 1) (hg : g = W.heap.size) (hl : M.length ≤ 1000000)
    (H : ∀ ao cap w', cap ≤ maxLen → M.length + 1 ≤ cap → Mk w w' p room L (.slice ao (M.length + 1) cap) (M ++ [nd]) → wpList Try.prog ops Q rest (a.put o.dst (.slice ao (M.length + 1) cap)) w') :
    wpList Try.prog ops Q (o :: rest) a (W.alloc (.cells #[.int .i64 nd.key, .int .i64 nd.val, .int .i64 nd.left, .int .i64 nd.right, .int .i64 nd.size, .int .i64 nd.high] 36)) := by
  obtain ⟨F, f1, f2, f3, f4⟩ := h
  refine wpList_pushN hgd s x ho (fun k => F k ∨ k < w.heap.size) out M nd hs f3 (fun j hj => ?_) g hx hg hl ?_
  · rcases hj with hj | hj
    · exact (f1 j hj).2
    · exact Nat.lt_of_lt_of_le hj f4.size
  · intro ao cap w' h1 h2 hR hk hO
    refine H ao cap w' h1 h2 ⟨F, fun k hk => ⟨(f1 k hk).1, Nat.lt_of_lt_of_le (f1 k hk).2 hO.size⟩, f2.only hO (fun k hk _ hn => hn (.inl hk)), hR, ?_⟩
    exact f4.trans ⟨hO.os, hO.tape, hO.output, hO.size, fun i hi => hO.block i (Nat.lt_of_lt_of_le hi f4.size) (fun hn => hn (.inr hi))⟩
theorem Mk.row (h : Mk w W p room L out M) (n : Nat) (q : NodeD) (hq : M[n]? = some q) :
    ∃ g cap, out = .slice (some ⟨g, 0, none⟩) M.length cap ∧ M.length ≤ cap ∧ cap ≤ maxLen ∧ W.cell? ⟨g, n * 6, none⟩ = some (.int .i64 q.key) ∧ W.cell? ⟨g, n * 6 + 1, none⟩ = some (.int .i64 q.val) ∧ W.cell? ⟨g, n * 6 + 2, none⟩ = some (.int .i64 q.left) ∧
      W.cell? ⟨g, n * 6 + 3, none⟩ = some (.int .i64 q.right) ∧ W.cell? ⟨g, n * 6 + 4, none⟩ = some (.int .i64 q.size) ∧ W.cell? ⟨g, n * 6 + 5, none⟩ = some (.int .i64 q.high) := by
  obtain ⟨F, f1, f2, f3, f4⟩ := h
  exact f3.at n q hq
theorem Mk.form (h : Mk w W p room L out M) : ∃ ao cap, out = .slice ao M.length cap ∧ M.length ≤ cap ∧ cap ≤ maxLen := by
  obtain ⟨F, f1, f2, f3, f4⟩ := h
  exact f3.form
theorem Mk.new {w W : World} {room : Int} (h : Held w W p room 0 []) : Mk w W p room [] (.slice none 0 0) [] :=
  ⟨fun k => w.heap.size ≤ k ∧ k < W.heap.size, fun k hk => hk, h.a.mono (fun k hk hlt => ⟨hk, hlt⟩), NRow.nil W _, h.b⟩
end

theorem wu (a : Int) : IntKind.u64.wrap a = a % 18446744073709551616 := by first | rfl | simp [IntKind.wrap]
theorem room150 (a : Int) : ∃ R : Nat, R < 150 ∧ wrap64 ((IntKind.u64.wrap a).tmod 150) = (R : Int) := by
  have h0 : 0 ≤ a % 18446744073709551616 := Int.emod_nonneg _ (by decide)
  refine ⟨((a % 18446744073709551616) % 150).toNat, by omega, ?_⟩
  rw [wu, Int.tmod_eq_emod_of_nonneg h0]
  unfold wrap64
  omega
end Go.Proofs.Ytpcfnnegialegaa
