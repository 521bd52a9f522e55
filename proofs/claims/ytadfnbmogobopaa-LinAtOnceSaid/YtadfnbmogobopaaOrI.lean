/- Rows of numbers made anew, appended to. No condition: lemmas. -/
import Derived.Test.YtadfnbmogobopaaOrH
import Derived.Test.YtadfnbmogobopaaPaF
namespace Go.Proofs.Ytadfnbmogobopaa
open Go.RowKit Go.Deep
set_option linter.all false
set_option maxRecDepth 20000

theorem wrapU64R (a : Int) : IntKind.u64.wrap a = a % 18446744073709551616 := by first | rfl | simp [IntKind.wrap]
/-- int(uint64(a) % uint64(d)). -/
theorem umodR (a d : Int) (h : 0 < d) (h2 : d ≤ 9223372036854775807) : ∃ m : Nat, (m : Int) < d ∧ wrap64 ((IntKind.u64.wrap a).tmod d) = m := by
  have h0 : 0 ≤ a % 18446744073709551616 := Int.emod_nonneg _ (by decide)
  have h1 := Int.emod_nonneg (a % 18446744073709551616) (show d ≠ 0 by omega)
  have h3 := Int.emod_lt_of_pos (a % 18446744073709551616) h
  refine ⟨((a % 18446744073709551616) % d).toNat, by omega, ?_⟩
  rw [wrapU64R, Int.tmod_eq_emod_of_nonneg h0]
  unfold wrap64
  omega
/-- A row of numbers made since W0. -/
structure TN (W0 W : World) (v : Value) (l : List Int) : Prop where
  row : Nums W (fun j => j < W0.heap.size) v l
  be : Below W0.heap.size W0 W
theorem TN.a0 {W0 W : World} (hb : Below W0.heap.size W0 W) : TN W0 (W.alloc (.cells #[] 3)) (.slice (some ⟨W.heap.size, 0, none⟩) 0 0) [] :=
  ⟨(Nums.lit W).sub (fun k _ hk => Nat.lt_of_lt_of_le hk hb.size), hb.trans ((Below.refl _ _).alloc (by exact hb.size) _)⟩
theorem TN.keep {W0 W W' : World} {v : Value} {l : List Int} (h : TN W0 W v l) (hb : Below W.heap.size W W') : TN W0 W' v l := ⟨h.row.below hb, bel2 h.be hb⟩
theorem TN.lt {W0 W : World} {v : Value} {l : List Int} (h : TN W0 W v l) : ∀ k, v.ownBlock = some k → k < W.heap.size := fun k hk => (h.row.row.lt k hk).2
theorem TN.ri {W0 W : World} {a : Option Addr} {n cap : Nat} {l : List Int} (h : TN W0 W (.slice a n cap) l) : RI W a cap l := h.row.ri
theorem TN.next {W0 w w' : World} {v v' : Value} {l ls : List Int} (h : TN W0 w v l) (h3 : Nums w' (fun j => j < w.heap.size ∧ ¬ v.ownBlock = some j) v' ls) (h4 : Only (fun k => ¬ (k < w.heap.size ∧ ¬ v.ownBlock = some k)) w w') :
    TN W0 w' v' ls ∧ Only (fun k => v.ownBlock = some k) w w' := by
  have hS : ∀ k, k < W0.heap.size → k < w.heap.size ∧ ¬ v.ownBlock = some k := fun k hk => ⟨Nat.lt_of_lt_of_le hk h.be.size, fun e => h.row.av k e hk⟩
  refine ⟨⟨h3.sub (fun k _ hk => hS k hk), h.be.trans (h4.below (fun i hi => Nat.le_of_not_lt (fun x => hi (hS i x))) h.be.size)⟩, h4.mono (fun i hi hlt => ?_)⟩
  exact Decidable.byContradiction (fun x => hi ⟨hlt, x⟩)
section
variable {ops : Array Oper} {o : Oper} {a : Act} {w : World} {K : Act → World → Prop} {Q : Exit → Act → World → Prop} {E : Prop}
theorem step_tn (hg : o.guard = none) (s x : Operand) (hop : o.op = Op.call { callee := Callee.builtin Builtin.append, args := #[s, x], argTypes := #[40, 40] })
    (W0 : World) (v : Value) (l news : List Int) (hs : a.eval s = v) (h : TN W0 w v l)
    (xv : Value) (hx : a.eval x = xv) (hsrc : Source w xv news.length (cellsI news)) (hl : l.length + news.length ≤ 100000000000) (n : Nat) (hn : l.length + news.length = n) (ls : List Int) (hls : l ++ news = ls)
    (H : ∀ ao cap w', cap ≤ maxLen → n ≤ cap → TN W0 w' (.slice ao n cap) ls → Only (fun k => v.ownBlock = some k) w w' → K (a.put o.dst (.slice ao n cap)) w') :
    if Region.wanted o (yielded ops a.tmps) = true then Oper.wp Try.prog o a w K Q else E :=
  step_nums hg s x hop (fun j => j < w.heap.size ∧ ¬ v.ownBlock = some j) v l news hs (nums_own h.row) (fun k hk => hk.1) xv hx hsrc hl n hn ls hls (fun ao cap w' h1 h2 h3 h4 => H ao cap w' h1 h2 (h.next h3 h4).1 (h.next h3 h4).2)
theorem wpList_tn {rest : List Oper} (hgd : o.guard = none) (s x : Operand) (hop : o.op = Op.call { callee := Callee.builtin Builtin.append, args := #[s, x], argTypes := #[40, 40] })
    (W0 : World) (v : Value) (l news : List Int) (hs : a.eval s = v) (h : TN W0 w v l)
    (xv : Value) (hx : a.eval x = xv) (hsrc : Source w xv news.length (cellsI news)) (hl : l.length + news.length ≤ 100000000000) (n : Nat) (hn : l.length + news.length = n) (ls : List Int) (hls : l ++ news = ls)
    (H : ∀ ao cap w', cap ≤ maxLen → n ≤ cap → TN W0 w' (.slice ao n cap) ls → Only (fun k => v.ownBlock = some k) w w' → wpList Try.prog ops Q rest (a.put o.dst (.slice ao n cap)) w') :
    wpList Try.prog ops Q (o :: rest) a w :=
  wpList_nums hgd s x hop (fun j => j < w.heap.size ∧ ¬ v.ownBlock = some j) v l news hs (nums_own h.row) (fun k hk => hk.1) xv hx hsrc hl n hn ls hls (fun ao cap w' h1 h2 h3 h4 => H ao cap w' h1 h2 (h.next h3 h4).1 (h.next h3 h4).2)
end
theorem src_i {g : Nat} {W : World} {x : Int} (h : Bq W g [.int .i64 x]) : Source W (.slice (some ⟨g, 0, none⟩) 1 1) [x].length (cellsI [x]) :=
  .inr ⟨_, _, rfl, fun j u hj => by
    rw [add_lit, Nat.zero_add]
    exact h.at_ j u (by simpa [cellsI] using hj)⟩
theorem src_keepI {w W : World} {x : Value} {m : Nat} {news : List Value} (h : Source w x m news) (hb : Below w.heap.size w W) : Source W x m news := by
  rcases h with h | ⟨ad, c, e, h⟩
  · exact .inl h
  · exact .inr ⟨ad, c, e, fun j u hj => pkc hb (h j u hj)⟩
end Go.Proofs.Ytadfnbmogobopaa
