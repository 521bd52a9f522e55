/- Nodes in memory: a slice of nodes that is read (Ns), the value of a tree. No condition: definitions and lemmas. -/
import Derived.Test.YtlpjbgojijkdjaaTrB
namespace Go.Proofs.Ytlpjbgojijkdjaa
open Go.RowKit
set_option linter.all false

/-- A node's cells. -/
structure NA (w : World) (b o : Nat) (pa : Option Addr) (pc : Nat) (n : Nd) : Prop where
  c0 : w.cell? ⟨b, o, none⟩ = some (.bool n.r)
  c1 : w.cell? ⟨b, o + 1, none⟩ = some (.int .i64 n.k)
  c2 : w.cell? ⟨b, o + 2, none⟩ = some (.int .i64 n.a)
  c3 : w.cell? ⟨b, o + 3, none⟩ = some (.int .i64 n.b)
  c4 : w.cell? ⟨b, o + 4, none⟩ = some (.slice pa n.p.length pc)
  c5 : w.cell? ⟨b, o + 5, none⟩ = some (.int .i64 n.s)
  ps : Prs w pa pc n.p
theorem NA.keep {w w' : World} {b o : Nat} {pa : Option Addr} {pc : Nat} {n : Nd} (h : NA w b o pa pc n) (hb : Below w.heap.size w w') : NA w' b o pa pc n :=
  ⟨kc hb h.c0, kc hb h.c1, kc hb h.c2, kc hb h.c3, kc hb h.c4, kc hb h.c5, h.ps.below hb⟩
/-- A slice of nodes that can be read. -/
def Ns (w : World) (a : Option Addr) (cap : Nat) (N : List Nd) : Prop :=
  N.length ≤ cap ∧ cap ≤ maxLen ∧ ∀ (i : Nat) (n : Nd), N[i]? = some n → ∃ b o pa pc, a = some ⟨b, o, none⟩ ∧ NA w b (o + i * 6) pa pc n
theorem Ns.keep {w w' : World} {a : Option Addr} {cap : Nat} {N : List Nd} (h : Ns w a cap N) (hb : Below w.heap.size w w') : Ns w' a cap N :=
  ⟨h.1, h.2.1, fun i n hn => by
    obtain ⟨b, o, pa, pc, e, hc⟩ := h.2.2 i n hn
    exact ⟨b, o, pa, pc, e, hc.keep hb⟩⟩
theorem Ns.none (w : World) : Ns w none 0 [] := ⟨Nat.le_refl _, Nat.zero_le _, fun i n hn => by simp at hn⟩
/-- Few nodes, few pairs in each. -/
def Small (N : List Nd) : Prop := N.length ≤ 460 ∧ ∀ n ∈ N, n.p.length ≤ 2100
theorem Small.at {N : List Nd} {i : Nat} {n : Nd} (h : Small N) (hn : N[i]? = some n) : n.p.length ≤ 2100 := h.2 n (List.mem_of_getElem? hn)
def trv (t : Int) (a : Option Addr) (cap : Nat) (N : List Nd) : Value := .agg #[.int .i64 t, .slice a N.length cap]
end Go.Proofs.Ytlpjbgojijkdjaa
