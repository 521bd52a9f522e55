/- Chains of comparisons of fields in one statement ('(p.X > q.X || a.X <= b.X) && ..'), operation by operation over a frame of which only a few slots are known: the ways meet again behind each pair. Of any program. -/
import Derived.Test.YtndlnekibfcjnaaPoE
namespace Go.Proofs.Ytndlnekibfcjnaa
open Go.RowKit
set_option linter.all false
/-- Slot i holds v. -/
def T (a : Act) (i : Nat) (v : Value) : Prop := a.tmps[i]? = some v
section
variable {P : Program} {ops : Array Oper} {Q : Exit → Act → World → Prop} {a a' : Act} {w : World} {rest : List Oper} {o : Oper} {u v : Value} {i d N : Nat}
theorem T.mk (h : a.tmps[i]? = some v) : T a i v := h
theorem T.lt (h : T a i v) : i < a.tmps.size := by
  rcases Nat.lt_or_ge i a.tmps.size with h' | h'
  · exact h'
  · rw [T, Array.getElem?_eq_none h'] at h; cases h
theorem T.ev (h : T a i v) : a.eval (.tmp i) = v := by
  have := h.lt
  simp only [T] at h
  simp [Act.eval, Array.getD_eq_getD_getElem?, h]
theorem T.ne (h : T a i u) (hne : i ≠ d) : T (a.put (some d) v) i u := by
  simp only [T, Act.put] at *
  rw [Array.getElem?_setIfInBounds_ne (by omega)]; exact h
theorem T.eq (h : d < a.tmps.size) : T (a.put (some d) v) d v := by
  simp [T, Act.put, h]
theorem put_size : (a.put (some d) v).tmps.size = a.tmps.size := by simp [Act.put]
theorem put_defers : (a.put (some d) v).defers = a.defers := rfl
theorem wl_val {v : Value} (hw : Region.wanted o (yielded ops a.tmps) = true) (hr : (execOp a.eval o).run P w = .ok (.value v) w) (h : wpList P ops Q rest (a.put o.dst v) w) : wpList P ops Q (o :: rest) a w := by
  simp only [wpList, hw, if_true]
  exact .inl (by rw [Oper.wp, hr]; exact h)
theorem wl_skip (hw : Region.wanted o (yielded ops a.tmps) = false) (h : wpList P ops Q rest (a.put o.dst undef) w) : wpList P ops Q (o :: rest) a w := wpList_skip hw h
theorem yield_is {j : Nat} {b : Bool} (h : (ops[j]?).bind (·.dst) = some d) (ht : T a d (.bool b)) : yielded ops a.tmps j = some b := by
  simp only [T] at ht
  simp [yielded, h, ht]
/-- The operation's guard says yes (or there is none); its slot is d. -/
def Wt (ops : Array Oper) (g : Option (Nat × Bool)) (d : Nat) (a : Act) : Prop := g = none ∨ ∃ j b, g = some (j, b) ∧ (ops[j]?).bind (·.dst) = some d ∧ T a d (.bool b)
theorem Wt.put {g : Option (Nat × Bool)} (h : Wt ops g d a) (hne : d ≠ i) : Wt ops g d (a.put (some i) v) := by
  rcases h with rfl | ⟨j, b, rfl, hj, ht⟩
  · exact .inl rfl
  · exact .inr ⟨j, b, rfl, hj, ht.ne hne⟩
theorem Wt.yes (h : Wt ops o.guard d a) : Region.wanted o (yielded ops a.tmps) = true := by
  rcases h with h | ⟨j, b, h, hj, ht⟩
  · simp [Region.wanted, h]
  · simp [Region.wanted, h, yield_is hj ht]
theorem wanted_not {j : Nat} {b : Bool} (hg : o.guard = some (j, !b)) (hj : (ops[j]?).bind (·.dst) = some d) (ht : T a d (.bool b)) : Region.wanted o (yielded ops a.tmps) = false := by
  simp [Region.wanted, hg, yield_is hj ht]
variable {y0 : TypeId} {p0 : String} {f0 : Array Edge} {g : Option (Nat × Bool)} {D : Option Tmp} {x x1 x2 : Operand}
variable {ρ : Operand → Value}
theorem ex_move (h : ρ x = v) : (execOp ρ { dst := D, op := .move x, type := y0, pos := p0, after := f0, guard := g }).run P w = .ok (.value v) w := by
  simp [go_sem, h]
theorem ex_assign (h : ρ x = v) : (execOp ρ { dst := D, op := .assign x, type := y0, pos := p0, after := f0, guard := g }).run P w = .ok (.value v) w := by
  simp [go_sem, h]
theorem ex_pick {b : Bool} (h : ρ x = .bool b) (h1 : ρ x1 = u) (h2 : ρ x2 = v) : (execOp ρ { dst := D, op := .pick x x1 x2, type := y0, pos := p0, after := f0, guard := g }).run P w = .ok (.value (if b then u else v)) w := by
  cases b <;> simp [go_sem, h, h1, h2]
theorem ex_load {b j : Nat} {n : Int} (h : ρ x = .pointer (some ⟨b, j, none⟩)) (hc : w.cell? ⟨b, j, none⟩ = some (.int .i64 n)) : (execOp ρ { dst := D, op := .load 3 x, type := y0, pos := p0, after := f0, guard := g }).run Try.prog w = .ok (.value (.int .i64 n)) w := by
  simp [go_sem, h, hc, Try.underlying3]
theorem ex_gtr {t : TypeId} {m n : Int} (ht : P.underlying t = some (.int .i64)) (h1 : ρ x1 = .int .i64 m) (h2 : ρ x2 = .int .i64 n) : (execOp ρ { dst := D, op := .binOp .gtr t x1 x2 t, type := y0, pos := p0, after := f0, guard := g }).run P w = .ok (.value (.bool (decide (n < m)))) w := by
  simp [go_sem, h1, h2, ht]
theorem ex_leq {t : TypeId} {m n : Int} (ht : P.underlying t = some (.int .i64)) (h1 : ρ x1 = .int .i64 m) (h2 : ρ x2 = .int .i64 n) : (execOp ρ { dst := D, op := .binOp .leq t x1 x2 t, type := y0, pos := p0, after := f0, guard := g }).run P w = .ok (.value (.bool (decide (m ≤ n)))) w := by
  simp [go_sem, h1, h2, ht]
/-- The address of a policy's number k. -/
def FieldAt (k : Nat) (w : World) : Prop := ∀ (ρ : Operand → Value) (x : Operand) (b : Nat) (D : Option Tmp) (y0 : TypeId) (p0 : String) (f0 : Array Edge) (g : Option (Nat × Bool)), ρ x = .pointer (some ⟨b, 0, none⟩) → (execOp ρ { dst := D, op := .fieldAddr 23 x k, type := y0, pos := p0, after := f0, guard := g }).run Try.prog w = .ok (.value (.pointer (some ⟨b, k, none⟩))) w
theorem fieldAt0 (w : World) : FieldAt 0 w := by
  intro ρ x b D y0 p0 f0 g h
  simp [go_sem, h, Try.underlying23]
theorem fieldAt1 (w : World) : FieldAt 1 w := by
  intro ρ x b D y0 p0 f0 g h
  simp [go_sem, h, Try.underlying23]
theorem fieldAt2 (w : World) : FieldAt 2 w := by
  intro ρ x b D y0 p0 f0 g h
  simp [go_sem, h, Try.underlying23]
theorem fieldAt3 (w : World) : FieldAt 3 w := by
  intro ρ x b D y0 p0 f0 g h
  simp [go_sem, h, Try.underlying23]
theorem fieldAt4 (w : World) : FieldAt 4 w := by
  intro ρ x b D y0 p0 f0 g h
  simp [go_sem, h, Try.underlying23]
end
/-- What is known of a frame: its size; four slots that point to policies. -/
structure Fs (a : Act) (N p q A B : Nat) : Prop where
  sz : a.tmps.size = N
  t2 : T a 2 (.pointer (some ⟨p, 0, none⟩))
  t3 : T a 3 (.pointer (some ⟨q, 0, none⟩))
  t5 : T a 5 (.pointer (some ⟨A, 0, none⟩))
  t6 : T a 6 (.pointer (some ⟨B, 0, none⟩))
  df : a.defers = []
section
variable {ops : Array Oper} {Q : Exit → Act → World → Prop} {a a' : Act} {w : World} {rest : List Oper} {o : Oper} {u v : Value} {i d N p q A B : Nat} {P : Program}
theorem Fs.put (h : Fs a N p q A B) (hi : 6 < i) : Fs (a.put (some i) v) N p q A B :=
  ⟨put_size.trans h.sz, h.t2.ne (by omega), h.t3.ne (by omega), h.t5.ne (by omega), h.t6.ne (by omega), h.df⟩
theorem st_val (hF : Fs a N p q A B) (hi : 6 < i) (hN : i < N) (hw : Region.wanted o (yielded ops a.tmps) = true) (hr : (execOp a.eval o).run P w = .ok (.value v) w) (ho : o.dst = some i)
    (h : ∀ a', Fs a' N p q A B → T a' i v → (∀ j x, j ≠ i → T a j x → T a' j x) → wpList P ops Q rest a' w) : wpList P ops Q (o :: rest) a w := by
  refine wl_val hw hr ?_
  rw [ho]
  exact h _ (hF.put hi) (T.eq (by rw [hF.sz]; exact hN)) (fun j x hj hT => hT.ne hj)
theorem st_skip (hF : Fs a N p q A B) (hi : 6 < i) (hw : Region.wanted o (yielded ops a.tmps) = false) (ho : o.dst = some i)
    (h : ∀ a', Fs a' N p q A B → (∀ j x, j ≠ i → T a j x → T a' j x) → wpList P ops Q rest a' w) : wpList P ops Q (o :: rest) a w := by
  refine wl_skip hw ?_
  rw [ho]
  exact h _ (hF.put hi) (fun j x hj hT => hT.ne hj)
theorem Wt.keep {g : Option (Nat × Bool)} (h : Wt ops g d a) (K : ∀ j x, j ≠ i → T a j x → T a' j x) (hne : d ≠ i) : Wt ops g d a' := by
  rcases h with rfl | ⟨j, b, rfl, hj, ht⟩
  · exact .inl rfl
  · exact .inr ⟨j, b, rfl, hj, K _ _ hne ht⟩
end
section
variable {ops : Array Oper} {Q : Exit → Act → World → Prop} {a a' : Act} {w : World} {rest : List Oper} {N p q A B k s d j2 : Nat} {g : Option (Nat × Bool)} {x y m n : Int}
variable {y0 y1 y2 y3 y4 y5 y6 y7 y8 y9 y10 y11 y12 y13 : TypeId} {p0 p1 p2 p3 p4 p5 p6 p7 p8 p9 p10 p11 p12 p13 : String} {f0 f1 f2 f3 f4 f5 f6 f7 f8 f9 f10 f11 f12 f13 : Array Edge}
/-- One pair of comparisons: 'p.X > q.X || a.X <= b.X': it is true; the ways meet behind it. -/
theorem pair_true (hk : FieldAt k w) (hF : Fs a N p q A B) (hs : 6 < s + 1) (hN : s + 12 < N) (hW : Wt ops g d a) (hd : d ≤ s) (hj : (ops[j2]?).bind (·.dst) = some (s + 6))
    (cp : w.cell? ⟨p, k, none⟩ = some (.int .i64 x)) (cq : w.cell? ⟨q, k, none⟩ = some (.int .i64 y)) (ca : w.cell? ⟨A, k, none⟩ = some (.int .i64 m)) (cb : w.cell? ⟨B, k, none⟩ = some (.int .i64 n)) (F : x ≤ y → m ≤ n)
    (h : ∀ a', Fs a' N p q A B → T a' (s + 12) (.bool true) → (∀ i v, i ≤ s → T a i v → T a' i v) → wpList Try.prog ops Q rest a' w) :
    wpList Try.prog ops Q ({ dst := some (s + 1), op := .fieldAddr 23 (.tmp 2) k, type := y0, pos := p0, after := f0, guard := g } :: { dst := some (s + 2), op := .load 3 (.tmp (s + 1)), type := y1, pos := p1, after := f1, guard := g } :: { dst := some (s + 3), op := .fieldAddr 23 (.tmp 3) k, type := y2, pos := p2, after := f2, guard := g } :: { dst := some (s + 4), op := .load 3 (.tmp (s + 3)), type := y3, pos := p3, after := f3, guard := g } :: { dst := some (s + 5), op := .binOp .gtr 3 (.tmp (s + 2)) (.tmp (s + 4)) 3, type := y4, pos := p4, after := f4, guard := g } :: { dst := some (s + 6), op := .move (.tmp (s + 5)), type := y5, pos := p5, after := f5, guard := g } :: { dst := some (s + 7), op := .fieldAddr 23 (.tmp 5) k, type := y6, pos := p6, after := f6, guard := some (j2, false) } :: { dst := some (s + 8), op := .load 3 (.tmp (s + 7)), type := y7, pos := p7, after := f7, guard := some (j2, false) } :: { dst := some (s + 9), op := .fieldAddr 23 (.tmp 6) k, type := y8, pos := p8, after := f8, guard := some (j2, false) } :: { dst := some (s + 10), op := .load 3 (.tmp (s + 9)), type := y9, pos := p9, after := f9, guard := some (j2, false) } :: { dst := some (s + 11), op := .binOp .leq 3 (.tmp (s + 8)) (.tmp (s + 10)) 3, type := y10, pos := p10, after := f10, guard := some (j2, false) } :: { dst := some (s + 12), op := .pick (.tmp (s + 6)) (.const (.bool true)) (.tmp (s + 11)), type := y11, pos := p11, after := f11, guard := g } :: rest) a w := by
  refine st_val hF (by omega) (by omega) (hW.yes) (hk _ _ p _ _ _ _ _ (hF.t2.ev)) rfl ?_
  intro a1 F1 T1 K1
  have W1 := hW.keep K1 (by omega)
  refine st_val F1 (by omega) (by omega) (W1.yes) (ex_load (T1.ev) cp) rfl ?_
  intro a2 F2 T2 K2
  have W2 := W1.keep K2 (by omega)
  refine st_val F2 (by omega) (by omega) (W2.yes) (hk _ _ q _ _ _ _ _ (F2.t3.ev)) rfl ?_
  intro a3 F3 T3 K3
  have W3 := W2.keep K3 (by omega)
  refine st_val F3 (by omega) (by omega) (W3.yes) (ex_load (T3.ev) cq) rfl ?_
  intro a4 F4 T4 K4
  have W4 := W3.keep K4 (by omega)
  refine st_val F4 (by omega) (by omega) (W4.yes) (ex_gtr (by kernel_rfl) ((K4 _ _ (by omega) (K3 _ _ (by omega) T2)).ev) (T4.ev)) rfl ?_
  intro a5 F5 T5 K5
  have W5 := W4.keep K5 (by omega)
  refine st_val F5 (by omega) (by omega) (W5.yes) (ex_move (T5.ev)) rfl ?_
  intro a6 F6 T6 K6
  have W6 := W5.keep K6 (by omega)
  have k6 : ∀ i v, i ≤ s → T a i v → T a6 i v := fun i v hi h => K6 _ _ (by omega) (K5 _ _ (by omega) (K4 _ _ (by omega) (K3 _ _ (by omega) (K2 _ _ (by omega) (K1 _ _ (by omega) h)))))
  by_cases hx : y < x
  · rw [decide_eq_true hx] at T6
    have G6 := T6
    refine st_skip F6 (i := s + 7) (by omega) (wanted_not (b := true) rfl hj G6) rfl ?_
    intro a7 F7 K7
    have W7 := W6.keep K7 (by omega)
    have G7 := K7 _ _ (by omega) G6
    refine st_skip F7 (i := s + 8) (by omega) (wanted_not (b := true) rfl hj G7) rfl ?_
    intro a8 F8 K8
    have W8 := W7.keep K8 (by omega)
    have G8 := K8 _ _ (by omega) G7
    refine st_skip F8 (i := s + 9) (by omega) (wanted_not (b := true) rfl hj G8) rfl ?_
    intro a9 F9 K9
    have W9 := W8.keep K9 (by omega)
    have G9 := K9 _ _ (by omega) G8
    refine st_skip F9 (i := s + 10) (by omega) (wanted_not (b := true) rfl hj G9) rfl ?_
    intro a10 F10 K10
    have W10 := W9.keep K10 (by omega)
    have G10 := K10 _ _ (by omega) G9
    refine st_skip F10 (i := s + 11) (by omega) (wanted_not (b := true) rfl hj G10) rfl ?_
    intro a11 F11 K11
    have W11 := W10.keep K11 (by omega)
    have G11 := K11 _ _ (by omega) G10
    refine st_val F11 (by omega) (by omega) W11.yes (ex_pick (b := true) G11.ev rfl rfl) rfl ?_
    intro a12 F12 T12 K12
    exact h a12 F12 T12 (fun i v hi hT => K12 _ _ (by omega) (K11 _ _ (by omega) (K10 _ _ (by omega) (K9 _ _ (by omega) (K8 _ _ (by omega) (K7 _ _ (by omega) (k6 i v hi hT)))))))
  · rw [decide_eq_false hx] at T6
    have G6 := T6
    have hmn : m ≤ n := F (by omega)
    refine st_val F6 (by omega) (by omega) (Wt.yes (d := s + 6) (.inr ⟨_, _, rfl, hj, G6⟩)) (hk _ _ A _ _ _ _ _ (F6.t5.ev)) rfl ?_
    intro a7 F7 T7 K7
    have W7 := W6.keep K7 (by omega)
    have G7 := K7 _ _ (by omega) G6
    refine st_val F7 (by omega) (by omega) (Wt.yes (d := s + 6) (.inr ⟨_, _, rfl, hj, G7⟩)) (ex_load (T7.ev) ca) rfl ?_
    intro a8 F8 T8 K8
    have W8 := W7.keep K8 (by omega)
    have G8 := K8 _ _ (by omega) G7
    refine st_val F8 (by omega) (by omega) (Wt.yes (d := s + 6) (.inr ⟨_, _, rfl, hj, G8⟩)) (hk _ _ B _ _ _ _ _ (F8.t6.ev)) rfl ?_
    intro a9 F9 T9 K9
    have W9 := W8.keep K9 (by omega)
    have G9 := K9 _ _ (by omega) G8
    refine st_val F9 (by omega) (by omega) (Wt.yes (d := s + 6) (.inr ⟨_, _, rfl, hj, G9⟩)) (ex_load (T9.ev) cb) rfl ?_
    intro a10 F10 T10 K10
    have W10 := W9.keep K10 (by omega)
    have G10 := K10 _ _ (by omega) G9
    refine st_val F10 (by omega) (by omega) (Wt.yes (d := s + 6) (.inr ⟨_, _, rfl, hj, G10⟩)) (ex_leq (by kernel_rfl) ((K10 _ _ (by omega) (K9 _ _ (by omega) T8)).ev) (T10.ev)) rfl ?_
    intro a11 F11 T11 K11
    have W11 := W10.keep K11 (by omega)
    have G11 := K11 _ _ (by omega) G10
    rw [decide_eq_true hmn] at T11
    refine st_val F11 (by omega) (by omega) W11.yes (ex_pick (b := false) G11.ev rfl T11.ev) rfl ?_
    intro a12 F12 T12 K12
    exact h a12 F12 T12 (fun i v hi hT => K12 _ _ (by omega) (K11 _ _ (by omega) (K10 _ _ (by omega) (K9 _ _ (by omega) (K8 _ _ (by omega) (K7 _ _ (by omega) (k6 i v hi hT)))))))
/-- One more pair behind '&&': what was so far is true, and stays so. -/
theorem group_true {r o : Nat} (hk : FieldAt k w) (hF : Fs a N p q A B) (hs : 6 < s) (hN : s + 13 < N) (hp : T a r (.bool true)) (ho : (ops[o]?).bind (·.dst) = some s) (hj : (ops[j2]?).bind (·.dst) = some (s + 6))
    (cp : w.cell? ⟨p, k, none⟩ = some (.int .i64 x)) (cq : w.cell? ⟨q, k, none⟩ = some (.int .i64 y)) (ca : w.cell? ⟨A, k, none⟩ = some (.int .i64 m)) (cb : w.cell? ⟨B, k, none⟩ = some (.int .i64 n)) (F : x ≤ y → m ≤ n)
    (h : ∀ a', Fs a' N p q A B → T a' (s + 13) (.bool true) → wpList Try.prog ops Q rest a' w) :
    wpList Try.prog ops Q ({ dst := some s, op := .move (.tmp r), type := y12, pos := p12, after := f12, guard := none } :: { dst := some (s + 1), op := .fieldAddr 23 (.tmp 2) k, type := y0, pos := p0, after := f0, guard := some (o, true) } :: { dst := some (s + 2), op := .load 3 (.tmp (s + 1)), type := y1, pos := p1, after := f1, guard := some (o, true) } :: { dst := some (s + 3), op := .fieldAddr 23 (.tmp 3) k, type := y2, pos := p2, after := f2, guard := some (o, true) } :: { dst := some (s + 4), op := .load 3 (.tmp (s + 3)), type := y3, pos := p3, after := f3, guard := some (o, true) } :: { dst := some (s + 5), op := .binOp .gtr 3 (.tmp (s + 2)) (.tmp (s + 4)) 3, type := y4, pos := p4, after := f4, guard := some (o, true) } :: { dst := some (s + 6), op := .move (.tmp (s + 5)), type := y5, pos := p5, after := f5, guard := some (o, true) } :: { dst := some (s + 7), op := .fieldAddr 23 (.tmp 5) k, type := y6, pos := p6, after := f6, guard := some (j2, false) } :: { dst := some (s + 8), op := .load 3 (.tmp (s + 7)), type := y7, pos := p7, after := f7, guard := some (j2, false) } :: { dst := some (s + 9), op := .fieldAddr 23 (.tmp 6) k, type := y8, pos := p8, after := f8, guard := some (j2, false) } :: { dst := some (s + 10), op := .load 3 (.tmp (s + 9)), type := y9, pos := p9, after := f9, guard := some (j2, false) } :: { dst := some (s + 11), op := .binOp .leq 3 (.tmp (s + 8)) (.tmp (s + 10)) 3, type := y10, pos := p10, after := f10, guard := some (j2, false) } :: { dst := some (s + 12), op := .pick (.tmp (s + 6)) (.const (.bool true)) (.tmp (s + 11)), type := y11, pos := p11, after := f11, guard := some (o, true) } :: { dst := some (s + 13), op := .pick (.tmp s) (.tmp (s + 12)) (.const (.bool false)), type := y13, pos := p13, after := f13, guard := none } :: rest) a w := by
  refine st_val hF (by omega) (by omega) (Wt.yes (d := 0) (.inl rfl)) (ex_move hp.ev) rfl ?_
  intro a1 F1 T1 K1
  refine pair_true hk F1 (by omega) (by omega) (d := s) (.inr ⟨o, true, rfl, ho, T1⟩) (by omega) hj cp cq ca cb F ?_
  intro a2 F2 T2 K2
  refine st_val F2 (by omega) (by omega) (Wt.yes (d := 0) (.inl rfl)) (ex_pick (b := true) (K2 _ _ (Nat.le_refl _) T1).ev T2.ev rfl) rfl ?_
  intro a3 F3 T3 K3
  exact h a3 F3 T3
theorem st_call {f : FuncId} {args : Array Value} {o : Oper} {v : Value} {R : World → Prop} (hw : Region.wanted o (yielded ops a.tmps) = true) (hr : (execOp a.eval o).run Try.prog w = .ok (.enter f args) w)
    (hc : Calls Try.prog f args w fun e w' => e = .returned v ∧ R w') (h : ∀ w', R w' → wpList Try.prog ops Q rest (a.put o.dst v) w') : wpList Try.prog ops Q (o :: rest) a w := by
  simp only [wpList, hw, if_true]
  refine .inl ?_
  rw [Oper.wp, hr, Oper.upon_enter]
  refine hc.mono ?_
  rintro e w' ⟨rfl, hR⟩
  exact h w' hR
end
end Go.Proofs.Ytndlnekibfcjnaa
