/- Rows of bools of one's own: read, appended to. No condition: definitions and lemmas. tree.Find. No condition: lemmas. -/
import Derived.Test.YtijepfabkalcoaaTrF
import Derived.Test.YtijepfabkalcoaaTrR
import Derived.Deep.LoopGhost
namespace Go.Proofs.Ytijepfabkalcoaa
open Go.RowKit
set_option linter.all false

/-- Bools that are read from a slice. -/
def RB (w : World) (a : Option Addr) (cap : Nat) (l : List Bool) : Prop :=
  l.length ≤ cap ∧ cap ≤ maxLen ∧ ∀ n v, l[n]? = some v → ∃ b o, a = some ⟨b, o, none⟩ ∧ w.cell? ⟨b, o + n, none⟩ = some (.bool v)
theorem RB.below {w w' : World} {a : Option Addr} {cap : Nat} {l : List Bool} (h : RB w a cap l) (hb : Below w.heap.size w w') : RB w' a cap l :=
  ⟨h.1, h.2.1, fun n v hv => by
    obtain ⟨b, o, rfl, hc⟩ := h.2.2 n v hv
    exact ⟨b, o, rfl, (hb.cell (World.block_lt_of_cell? w _ hc)).trans hc⟩⟩

def cellsB (l : List Bool) : List Value := l.map (Value.bool)
theorem cellsB_len (l : List Bool) : (cellsB l).length = l.length := by unfold cellsB; simp
theorem cellsB_app (l l' : List Bool) : cellsB (l ++ l') = cellsB l ++ cellsB l' := by unfold cellsB; simp
theorem cellsB_one (l : List Bool) : ∀ u ∈ cellsB l, u.oneCell' = true := by
  intro u hu
  unfold cellsB at hu
  obtain ⟨x, _, rfl⟩ := List.mem_map.1 hu
  rfl

/-- A row of numbers that a function makes for itself; its block is none of S. -/
structure Bools (w : World) (S : Nat → Prop) (v : Value) (l : List Bool) : Prop where
  row : w.ownsRow 0 4 1 v l.length (cellsB l)
  av : ∀ k, v.ownBlock = some k → ¬ S k

theorem Bools.nil (w : World) (S : Nat → Prop) : Bools w S (.slice none 0 0) [] := ⟨World.ownsRow_nil w 0 _ 1, fun k hk => by simp [Value.ownBlock] at hk⟩
theorem Bools.below {w w' : World} {S : Nat → Prop} {v : Value} {l : List Bool} (h : Bools w S v l) (hb : Below w.heap.size w w') : Bools w' S v l := by
  refine ⟨⟨h.row.1, ?_⟩, h.av⟩
  rcases h.row.2 with hn | ⟨g, cap, cur, rfl, hbb, hgg, rest⟩
  · exact .inl hn
  · refine .inr ⟨g, cap, cur, rfl, hbb, ?_, rest⟩
    rw [hb.block g (Array.getElem?_eq_some_iff.1 hgg).1]
    exact hgg
theorem Bools.only {w w' : World} {S F : Nat → Prop} {v : Value} {l : List Bool} (h : Bools w S v l) (o : Only F w w') (hF : ∀ k, F k → S k) : Bools w' S v l :=
  ⟨o.row h.row (fun k hk hf => h.av k hk (hF k hf)), h.av⟩
theorem Bools.sub {w : World} {S S' : Nat → Prop} {v : Value} {l : List Bool} (h : Bools w S v l) (hS : ∀ k, k < w.heap.size → S' k → S k) : Bools w S' v l :=
  ⟨h.row, fun k hk hs => h.av k hk (hS k (h.row.lt k hk).2 hs)⟩
theorem Bools.form {w : World} {S : Nat → Prop} {v : Value} {l : List Bool} (h : Bools w S v l) : ∃ ao cap, v = .slice ao l.length cap ∧ l.length ≤ cap ∧ cap ≤ maxLen := row_form h.row
/-- A number of the row. -/
theorem Bools.at {w : World} {S : Nat → Prop} {a : Option Addr} {n cap : Nat} {l : List Bool} (h : Bools w S (.slice a n cap) l) {i : Nat} {x : Bool} (hx : l[i]? = some x) :
    ∃ g, a = some ⟨g, 0, none⟩ ∧ ¬ S g ∧ w.cell? ⟨g, i, none⟩ = some (.bool x) := by
  have hlt : i < l.length := (List.getElem?_eq_some_iff.1 hx).1
  obtain ⟨g, cap2, e, _⟩ := row_at h.row (by omega)
  simp only [Value.slice.injEq] at e
  obtain ⟨rfl, rfl, rfl⟩ := e
  refine ⟨g, rfl, h.av g rfl, ?_⟩
  rw [h.row.cellAt i (by omega)]
  simp [cellsB, hx]
/-- The row is read. -/
theorem Bools.rb {w : World} {S : Nat → Prop} {a : Option Addr} {n cap : Nat} {l : List Bool} (h : Bools w S (.slice a n cap) l) : RB w a cap l := by
  obtain ⟨ao, cap', e, h1, h2⟩ := h.form
  simp only [Value.slice.injEq] at e
  obtain ⟨rfl, _, rfl⟩ := e
  refine ⟨h1, h2, fun i v hv => ?_⟩
  obtain ⟨g, rfl, _, hc⟩ := h.at hv
  exact ⟨g, 0, rfl, by rw [Nat.zero_add]; exact hc⟩
/-- The row cut short. -/
theorem Bools.take {w : World} {S : Nat → Prop} {a : Option Addr} {n cap : Nat} {l : List Bool} (h : Bools w S (.slice a n cap) l) {m : Nat} (hm : m ≤ l.length) : Bools w S (.slice a m cap) (l.take m) := by
  refine ⟨?_, fun k hk => h.av k (by cases a <;> simpa [Value.ownBlock] using hk)⟩
  have hl : (l.take m).length = m := by rw [List.length_take]; omega
  refine ⟨by rw [cellsB_len]; omega, ?_⟩
  rcases h.row.2 with ⟨e, e0⟩ | ⟨g, cap', cur, e, hb, hg, hc, hcm, hcs, ht⟩
  · simp only [Value.slice.injEq] at e
    obtain ⟨rfl, _, rfl⟩ := e
    exact .inl ⟨by rw [show m = 0 by omega], by omega⟩
  · simp only [Value.slice.injEq] at e
    obtain ⟨rfl, _, rfl⟩ := e
    refine .inr ⟨g, cap, cur, by rw [hl], hb, hg, by omega, hcm, hcs, ?_⟩
    rw [hl]
    have := congrArg (List.take m) ht
    rw [List.take_take] at this
    rw [Nat.mul_one] at this ⊢
    rw [show min m l.length = m by omega] at this
    rw [this]
    simp [cellsB, List.map_take]

/-- An empty row written out. -/
theorem Bools.lit (w : World) : Bools (w.alloc (.cells #[] 4)) (fun j => j < w.heap.size) (.slice (some ⟨w.heap.size, 0, none⟩) 0 0) [] :=
  ⟨World.ownsRow_lit (base := 0) (size := 1) w #[] 0 (Nat.zero_le _) (Nat.zero_le _) rfl, fun k hk hs => by
    simp [Value.ownBlock] at hk; omega⟩

section
variable {w : World} {ops : Array Oper} {o : Oper} {a : Act} {K : Act → World → Prop} {Q : Exit → Act → World → Prop} {E : Prop}
theorem bools_post {w w' : World} {S : Nat → Prop} {v v' : Value} {l news : List Bool} (h : Bools w S v l) (hS : ∀ k, S k → k < w.heap.size)
    (hown : w'.ownsRow 0 4 1 v' (l.length + news.length) (cellsB l ++ cellsB news)) (hgr : w.grownBy w' v.ownBlock) (hk : ∀ k, v'.ownBlock = some k → v.ownBlock = some k ∨ w.heap.size ≤ k) :
    ∃ ao cap, v' = .slice ao (l.length + news.length) cap ∧ cap ≤ maxLen ∧ l.length + news.length ≤ cap ∧ Bools w' S v' (l ++ news) ∧ Only (fun k => ¬ S k) w w' := by
  obtain ⟨ao, cap, rfl, h1, h2⟩ := row_form hown
  refine ⟨ao, cap, rfl, h2, h1, ⟨by rw [List.length_append, cellsB_app]; exact hown, fun j hj hs => ?_⟩, (Only.refl _ _).grown hgr (fun j hj _ hs => h.av j hj hs)⟩
  rcases hk j hj with e | e
  · exact h.av j e hs
  · have := hS j hs; omega
/-- The same in a walk in the text's order. -/
theorem wpList_bools {rest : List Oper} (hgd : o.guard = none) (s x : Operand) (hop : o.op = Op.call { callee := Callee.builtin Builtin.append, args := #[s, x], argTypes := #[74, 74] })
    (S : Nat → Prop) (v : Value) (l news : List Bool) (hs : a.eval s = v) (h : Bools w S v l) (hS : ∀ k, S k → k < w.heap.size)
    (xv : Value) (hx : a.eval x = xv) (hsrc : Source w xv news.length (cellsB news)) (hl : l.length + news.length ≤ 100000000000) (n : Nat) (hn : l.length + news.length = n) (ls : List Bool) (hls : l ++ news = ls)
    (H : ∀ ao cap w', cap ≤ maxLen → n ≤ cap → Bools w' S (.slice ao n cap) ls → Only (fun k => ¬ S k) w w' → wpList Try.prog ops Q rest (a.put o.dst (.slice ao n cap)) w') :
    wpList Try.prog ops Q (o :: rest) a w := by
  subst hn; subst hls
  obtain ⟨i, hi, hz, hs1, hs2⟩ := info_parts infoBool
  refine wpList_own_append hgd s x 74 hop 4 i _ 1 1 Try.underlying74 hi hz hs1 hs2 rfl (by decide) v l.length (cellsB l) hs h.row xv news.length (cellsB news) hx hsrc (by rw [cellsB_len, Nat.mul_one]) (cellsB_one news) (by unfold maxLen; omega) (by omega) ?_
  intro v' w' hown hgr hk
  obtain ⟨ao, cap, rfl, h1, h2, h3, h4⟩ := bools_post h hS hown hgr hk
  exact H ao cap w' h1 h2 h3 h4
end

/-- One number, written out as a slice. -/
theorem src_oneB {w : World} (x : Bool) : Source (w.alloc (.cells #[.bool x] 4)) (.slice (some ⟨w.heap.size, 0, none⟩) 1 1) [x].length (cellsB [x]) :=
  .inr ⟨_, _, rfl, cells_new _ #[.bool x] _⟩
end Go.Proofs.Ytijepfabkalcoaa

namespace Go.Proofs.Ytijepfabkalcoaa
open Go.RowKit
set_option linter.all false

/-- The way so far: the place, what is above it, on which sides. -/
structure Fd (W6 : World) (q6 : Nat) (wr : World) (x : Int) (vu vd : Value) (U : List Int) (D : List Bool) : Prop where
  b : Bk wr q6 [.int .i64 x, vu, vd]
  u : Nums wr (fun k => k < W6.heap.size) vu U
  d : Bools wr (fun k => k < W6.heap.size) vd D
  ne : ∀ k, vu.ownBlock = some k → vd.ownBlock ≠ some k
  o : Only (fun k => k = q6 ∨ W6.heap.size ≤ k) W6 wr
  q : q6 < W6.heap.size
section
variable {W6 wr w2 : World} {q6 : Nat} {x : Int} {vu vd vu' vd' : Value} {U U' : List Int} {D D' : List Bool}
theorem Fd.keep (h : Fd W6 q6 wr x vu vd U D) (hb : Below wr.heap.size wr w2) : Fd W6 q6 w2 x vu vd U D :=
  ⟨h.b.keep hb, h.u.below hb, h.d.below hb, h.ne, h.o.trans (Only.ofBelow hb) (fun i hi _ => hi), h.q⟩
theorem Fd.setX (h : Fd W6 q6 wr x vu vd U D) (x' : Int) : Fd W6 q6 (wr.setCell ⟨q6, 0, none⟩ (.int .i64 x')) x' vu vd U D := by
  have hO : Only (fun k => k = q6) wr (wr.setCell ⟨q6, 0, none⟩ (.int .i64 x')) := (Only.refl _ wr).setCell (S := fun k => k = q6) (p := ⟨q6, 0, none⟩) (.inl rfl) _
  exact ⟨h.b.set 0 _ (by simp), h.u.only hO (fun k hk => by rw [hk]; exact h.q), h.d.only hO (fun k hk => by rw [hk]; exact h.q), h.ne, h.o.trans hO (fun i hi _ => .inl hi), h.q⟩
theorem Fd.pushU (h : Fd W6 q6 wr x vu vd U D) (hN : Nums w2 (Tk wr vu) vu' U') (hO : Only (fun k => ¬ Tk wr vu k) wr w2) : Fd W6 q6 (w2.setCell ⟨q6, 1, none⟩ vu') x vu' vd U' D := by
  have own : ∀ k, vu'.ownBlock = some k → vu.ownBlock = some k ∨ wr.heap.size ≤ k := fun k hk => Ws.own ⟨hN, hO⟩ k hk
  have hq : Tk wr vu q6 := ⟨h.b.lt, fun e => absurd h.q (h.u.av q6 e)⟩
  have hd : ∀ k, vd.ownBlock = some k → Tk wr vu k := fun k hk => ⟨(h.d.row.lt k hk).2, fun e => h.ne k e hk⟩
  have hO2 : Only (fun k => k = q6) w2 (w2.setCell ⟨q6, 1, none⟩ vu') := (Only.refl _ w2).setCell (S := fun k => k = q6) (p := ⟨q6, 1, none⟩) (.inl rfl) _
  have low : ∀ k, vu'.ownBlock = some k → W6.heap.size ≤ k := fun k hk => by
    rcases own k hk with e | e
    · have : ¬ k < W6.heap.size := h.u.av k e
      omega
    · exact Nat.le_trans h.o.size e
  refine ⟨(h.b.only hO (fun hh => hh hq)).set 1 _ (by simp), ⟨(hO2.row hN.row (fun k hk he => by have := low k hk; have := h.q; omega)), fun k hk hs => by have := low k hk; omega⟩,
    (⟨(hO.row h.d.row (fun k hk hh => hh (hd k hk))), h.d.av⟩ : Bools w2 _ vd D).only hO2 (fun k hk => by rw [hk]; exact h.q), fun k hk e => ?_, (h.o.trans hO (fun i hi _ => ?_)).trans hO2 (fun i hi _ => .inl hi), h.q⟩
  · rcases own k hk with e' | e'
    · exact h.ne k e' e
    · have := (h.d.row.lt k e).2; omega
  · by_cases hl : i < W6.heap.size
    · exact absurd ⟨Nat.lt_of_lt_of_le hl h.o.size, fun e => h.u.av i e hl⟩ hi
    · exact .inr (by omega)
theorem Fd.pushD (h : Fd W6 q6 wr x vu vd U D) (hN : Bools w2 (Tk wr vd) vd' D') (hO : Only (fun k => ¬ Tk wr vd k) wr w2) : Fd W6 q6 (w2.setCell ⟨q6, 2, none⟩ vd') x vu vd' U D' := by
  have own : ∀ k, vd'.ownBlock = some k → vd.ownBlock = some k ∨ wr.heap.size ≤ k := fun k hk => by
    have := hN.av k hk
    unfold Tk at this
    rcases Classical.em (vd.ownBlock = some k) with h' | h'
    · exact .inl h'
    · exact .inr (by
        rcases Nat.lt_or_ge k wr.heap.size with h2 | h2
        · exact absurd ⟨h2, h'⟩ this
        · exact h2)
  have hq : Tk wr vd q6 := ⟨h.b.lt, fun e => absurd h.q (h.d.av q6 e)⟩
  have hu : ∀ k, vu.ownBlock = some k → Tk wr vd k := fun k hk => ⟨(h.u.row.lt k hk).2, h.ne k hk⟩
  have hO2 : Only (fun k => k = q6) w2 (w2.setCell ⟨q6, 2, none⟩ vd') := (Only.refl _ w2).setCell (S := fun k => k = q6) (p := ⟨q6, 2, none⟩) (.inl rfl) _
  have low : ∀ k, vd'.ownBlock = some k → W6.heap.size ≤ k := fun k hk => by
    rcases own k hk with e | e
    · have : ¬ k < W6.heap.size := h.d.av k e
      omega
    · exact Nat.le_trans h.o.size e
  refine ⟨(h.b.only hO (fun hh => hh hq)).set 2 _ (by simp), (⟨(hO.row h.u.row (fun k hk hh => hh (hu k hk))), h.u.av⟩ : Nums w2 _ vu U).only hO2 (fun k hk => by rw [hk]; exact h.q),
    ⟨(hO2.row hN.row (fun k hk he => by have := low k hk; have := h.q; omega)), fun k hk hs => by have := low k hk; omega⟩, fun k hk e => ?_, (h.o.trans hO (fun i hi _ => ?_)).trans hO2 (fun i hi _ => .inl hi), h.q⟩
  · rcases own k e with e' | e'
    · exact h.ne k hk e'
    · have := (h.u.row.lt k hk).2; omega
  · by_cases hl : i < W6.heap.size
    · exact absurd ⟨Nat.lt_of_lt_of_le hl h.o.size, fun e => h.d.av i e hl⟩ hi
    · exact .inr (by omega)
end
/-- What Find tells. -/
def FdIs (w : World) (d : Dn) (e : Ending) (w' : World) : Prop :=
  ∃ au cu ad cd, e = .returned (.tuple #[.agg #[.int .i64 d.i, .slice au d.u.length cu, .slice ad d.u.length cd], .bool true]) ∧ RI w' au cu (preI d.u) ∧ RB w' ad cd d.d ∧ Below w.heap.size w w'

theorem dn_rt_yes {N : List Nd} {key : Int} {i : Nat} {zl zr : Sh} {n : Nd} (hn : N[i]? = some n) (h : n.k ≤ key) : dn N key (.rt i zl zr) = ⟨(dn N key zr).i, i :: (dn N key zr).u, true :: (dn N key zr).d⟩ := by
  rw [dn, nd_of hn, if_pos h]
theorem dn_rt_no {N : List Nd} {key : Int} {i : Nat} {zl zr : Sh} {n : Nd} (hn : N[i]? = some n) (h : ¬ n.k ≤ key) : dn N key (.rt i zl zr) = ⟨(dn N key zl).i, i :: (dn N key zl).u, false :: (dn N key zl).d⟩ := by
  rw [dn, nd_of hn, if_neg h]

set_option maxRecDepth 100000 in
set_option maxHeartbeats 12800000 in
theorem tfind_yes (t key : Int) (a : Option Addr) (cap : Nat) (N : List Nd) (w : World) (hN : Ns w a cap N) (hsm : Small N) (s : Sh) (h : Tr N s t) :
    Calls Try.prog 43 #[trv t a cap N, .int .i64 key] w (FdIs w (dn N key s)) := by
  have hl1 := hsm.1
  have hc1 := hN.1
  have hc2 := hN.2.1
  unfold maxLen at hc2
  have b2 : Below w.heap.size w ((w.alloc (.cells #[.int .i64 t, .slice a N.length cap] 24)).alloc (.cells #[.int .i64 0, .slice none 0 0, .slice none 0 0] 91)) := bel1 (al1 _) _
  have cm := tmay_any t a cap N _ (hN.keep b2) hsm true ⟨fun _ => ⟨s, h⟩, fun _ => rfl⟩
  have B1 := Lib.hid (Bk.past (Bk.new w #[.int .i64 t, .slice a N.length cap] 24) (.cells #[.int .i64 0, .slice none 0 0, .slice none 0 0] 91))
  have B2 := Lib.hid (show Bk ((w.alloc (.cells #[.int .i64 t, .slice a N.length cap] 24)).alloc (.cells #[.int .i64 0, .slice none 0 0, .slice none 0 0] 91)) (w.heap.size + 1) [.int .i64 0, .slice none 0 0, .slice none 0 0] from by
    have h := Bk.new (w.alloc (.cells #[.int .i64 t, .slice a N.length cap] 24)) #[.int .i64 0, .slice none 0 0, .slice none 0 0] 91
    simp only [World.size_alloc] at h; exact h)
  have HB := Lib.hid b2
  have HN := Lib.hid hN
  have HS := Lib.hid hsm
  have HT := Lib.hid h
  unfold trv at cm ⊢
  clear b2 hN h hsm
  go_enter Try.func43, Try.ntmps43
  go_wp2_with (go_at_call 11; ((with_reducible refine cm.mono ?_); clear cm; rintro e w3 ⟨rfl, hb3⟩; have R1 := Lib.hid (B1.out.keep hb3); have R2 := Lib.hid (B2.out.keep hb3); have HR := Lib.hid (bel2 HB.out hb3); clear hb3; have k0 := R1.out.at_ 0 _ rfl; have k1 := R1.out.at_ 1 _ rfl))
  have F0 := Lib.hid (show Fd (w3.alloc (.cells #[.int .i64 t, .slice none 0 0, .slice none 0 0] 91)) w3.heap.size (w3.alloc (.cells #[.int .i64 t, .slice none 0 0, .slice none 0 0] 91)) t (.slice none 0 0) (.slice none 0 0) [] [] from
    ⟨Bk.new w3 #[.int .i64 t, .slice none 0 0, .slice none 0 0] 91, Nums.nil _ _, Bools.nil _ _, fun k hk => by simp [Value.ownBlock] at hk, Only.refl _ _, by simp⟩)
  have R1' := Lib.hid (R1.out.past (.cells #[.int .i64 t, .slice none 0 0, .slice none 0 0] 91))
  have R2' := Lib.hid (R2.out.past (.cells #[.int .i64 t, .slice none 0 0, .slice none 0 0] 91))
  have HR' := Lib.hid (bel1 HR.out (.cells #[.int .i64 t, .slice none 0 0, .slice none 0 0] 91))
  have HQ := Lib.hid (show w.heap.size < w3.heap.size ∧ w.heap.size + 1 < w3.heap.size ∧ w3.heap.size < (w3.alloc (.cells #[.int .i64 t, .slice none 0 0, .slice none 0 0] 91)).heap.size from ⟨R1.out.lt, R2.out.lt, by simp⟩)
  clear k0 k1 R1 R2 HR B1 B2 HB
  obtain ⟨q6, hq6⟩ : ∃ q, w3.heap.size = q := ⟨_, rfl⟩
  rw [hq6] at F0 HQ ⊢
  clear hq6
  generalize (World.alloc w3 _ : World) = W6 at *
  go_loopg [7] s.pre.length (fun g _ wr => ∃ (z : Sh) (lo hi : Option Int) (U : List Int) (D : List Bool) (au ad : Option Addr) (nu cu cd : Nat), g = z.pre.length ∧ Hangs N z z.top lo hi ∧ nu = U.length ∧ nu = D.length ∧ U ++ preI (dn N key z).u = preI (dn N key s).u ∧ D ++ (dn N key z).d = (dn N key s).d ∧ (dn N key z).i = (dn N key s).i ∧ Fd W6 q6 wr (z.top : Int) (.slice au nu cu) (.slice ad nu cd) U D)
  case atStart =>
    have ht := HT.out.hg.top
    refine ⟨s, none, none, [], [], none, none, 0, 0, 0, rfl, ht ▸ HT.out.hg, rfl, rfl, rfl, rfl, rfl, ?_⟩
    rw [← ht]; exact F0.out
  case round =>
    obtain ⟨z, lo, hi, U, D, au, ad, nu, cu, cd, rfl, hh, hU, hD, eU, eD, eI, hF⟩ := hrel
    have hul : nu ≤ 2000 := by
      have h1 := congrArg List.length eU
      simp [preI] at h1
      have h2 := dn_ulen N key s
      have h3 := HT.out.all
      omega
    have hBw : Below w.heap.size w wr := HR'.out.trans (hF.o.below (B := w.heap.size) (fun i hi => by have := HQ.out; omega) HR'.out.size)
    have FF := Lib.hid hF
    have EE := Lib.hid (And.intro eU (And.intro eD eI))
    have HU := Lib.hid (And.intro hU hD)
    have j0 := (R1'.out.only hF.o (by have := HQ.out; omega)).at_ 0 _ rfl
    have j1 := (R1'.out.only hF.o (by have := HQ.out; omega)).at_ 1 _ rfl
    have p0 := hF.b.at_ 0 _ rfl
    have p1 := hF.b.at_ 1 _ rfl
    have p2 := hF.b.at_ 2 _ rfl
    have fp := hF.b.fr
    have hx0 : (0 : Int) ≤ (z.top : Int) := by omega
    have hxl := hh.lt _ z.top_mem
    have hx1 : (z.top : Int) < (N.length : Int) := by omega
    have HBw := Lib.hid hBw
    have HH := Lib.hid hh
    obtain ⟨n, hn⟩ := hh.get
    have hpl := HS.out.at hn
    obtain ⟨b, o, pa, pc, rfl, hna⟩ := (HN.out.keep hBw).2.2 z.top n hn
    clear hF hBw eU eD eI hU hD hh F0
    obtain ⟨e0, e1, e2, e3, e4, e5, dp⟩ := hna
    clear dp
    cases z with
    | lf i =>
      have hr : n.r = false := by
        obtain ⟨_, n', hn', hr', _⟩ := HH.out
        have : n' = n := by rw [show N[i]? = some n from hn] at hn'; cases hn'; rfl
        rw [← this]; exact hr'
      have J2 := Lib.hid (R2'.out.only FF.out.o (by have := HQ.out; omega))
      have r0 := J2.out.at_ 0 _ rfl
      have r1 := J2.out.at_ 1 _ rfl
      have r2 := J2.out.at_ 2 _ rfl
      have f0 := J2.out.fr 0
      have f1 := J2.out.fr 1
      have f2 := J2.out.fr 2
      rw [hr] at e0
      clear hn hpl hr e1 e2 e3 e4 e5 fp
      go_wp2_with (fail)
      refine bodyPost_ret (v := .tuple #[.agg #[.int .i64 (Sh.lf i).top, .slice au nu cu, .slice ad nu cd], .bool true]) (by simp [results, Try.results43, go_sem, r0, r1, r2]) rfl ?_
      obtain ⟨eU, eD, eI⟩ := EE.out
      have eU' : U = preI (dn N key s).u := by rw [← eU]; simp [dn, preI]
      have eD' : D = (dn N key s).d := by rw [← eD]; simp [dn]
      have eI' : (Sh.lf i).top = (dn N key s).i := eI
      have eN : nu = (dn N key s).u.length := by rw [HU.out.1, eU']; simp [preI]
      rw [eI', eN]
      have hO : Only (fun k => k = w.heap.size + 1) wr (((wr.setCell ⟨w.heap.size + 1, 0, none⟩ (.int .i64 (Sh.lf i).top)).setCell ⟨w.heap.size + 1, 1, none⟩ (.slice au nu cu)).setCell ⟨w.heap.size + 1, 2, none⟩ (.slice ad nu cd)) :=
        (((Only.refl _ wr).setCell (S := fun k => k = w.heap.size + 1) (p := ⟨w.heap.size + 1, 0, none⟩) (.inl rfl) _).setCell (S := fun k => k = w.heap.size + 1) (p := ⟨w.heap.size + 1, 1, none⟩) (.inl rfl) _).setCell (S := fun k => k = w.heap.size + 1) (p := ⟨w.heap.size + 1, 2, none⟩) (.inl rfl) _
      rw [eI', eN] at hO
      have hu := (FF.out.u.only hO (fun k hk => by have := HQ.out; omega)).ri
      have hd := (FF.out.d.only hO (fun k hk => by have := HQ.out; omega)).rb
      rw [eU'] at hu
      rw [eD'] at hd
      exact ⟨au, cu, ad, cd, rfl, hu, hd, HBw.out.trans (hO.below (B := w.heap.size) (fun i hi => by omega) HBw.out.size)⟩
    | rt i zl zr =>
      obtain ⟨-, n', hn', hr, -, hl, hrr⟩ := HH.out
      obtain rfl : n = n' := by rw [show N[i]? = some n from hn] at hn'; cases hn'; rfl
      have hkY := fun h => dn_rt_yes (N := N) (key := key) (i := i) (zl := zl) (zr := zr) (n := n) hn h
      have hkN := fun h => dn_rt_no (N := N) (key := key) (i := i) (zl := zl) (zr := zr) (n := n) hn h
      obtain ⟨r, k, l, b', p, sx⟩ := n
      dsimp only at hr hl hrr e0 e1 e2 e3 e4 e5 hkY hkN hpl
      subst hr
      have hlt := hl.top
      have hrt := hrr.top
      by_cases hk : k ≤ key
      · have eK := hkY hk
        rw [eK] at EE
        have HZ := Lib.hid (show Hangs N zr (zr.top : Int) _ _ from hrt ▸ hrr)
        subst hlt
        subst hrt
        have F1 := Lib.hid (FF.out.keep (al1 (.cells #[.bool true, .int .i64 k, .int .i64 (zl.top : Int), .int .i64 (zr.top : Int), .slice pa p.length pc, .int .i64 sx] 49)))
        have X1 := Lib.hid (Bk.new wr #[.bool true, .int .i64 k, .int .i64 (zl.top : Int), .int .i64 (zr.top : Int), .slice pa p.length pc, .int .i64 sx] 49)
        obtain ⟨q7, hq7⟩ : ∃ q, wr.heap.size = q := ⟨_, rfl⟩
        have HQ7 := Lib.hid (show (∀ k, (Value.slice au nu cu).ownBlock = some k → k < q7) ∧ (∀ k, (Value.slice ad nu cd).ownBlock = some k → k < q7) ∧ q6 < q7 from by rw [← hq7]; exact ⟨fun k hk => (FF.out.u.row.lt k hk).2, fun k hk => (FF.out.d.row.lt k hk).2, FF.out.b.lt⟩)
        have hqx : wr.heap.size = q7 := hq7
        go_upto_region 7 with (fail)
        rw [hqx] at X1
        clear hqx hq7 e0 e1 e2 e3 e4 e5 j0 j1 p0 p1 p2 eK hkY hkN hl hrr fp
        generalize (World.alloc wr _ : World) = W7 at *
        have y0 := F1.out.b.at_ 0 _ rfl
        have y1 := F1.out.b.at_ 1 _ rfl
        have F1' := Lib.hid (F1.out.keep (al1 (.cells #[.int .i64 (i : Int)] 3)))
        have X1' := Lib.hid (X1.out.past (.cells #[.int .i64 (i : Int)] 3))
        have HL := Lib.hid (show U.length + [(i : Int)].length ≤ 100000000000 by have := HU.out.1; simp; omega)
        have HE := Lib.hid (show U.length + [(i : Int)].length = nu + 1 by have := HU.out.1; simp; omega)
        go_upto_region 8 with (at_builtin; refine wpList_nums rfl (.tmp 34) (.tmp 37) rfl (Tk (W7.alloc (.cells #[.int .i64 (i : Int)] 3)) (.slice au nu cu)) _ U [(i : Int)] rfl (Ws.start F1'.out.u).n (fun k hk => hk.1) _ rfl (src_one _) HL.out _ HE.out _ rfl ?_; intro au2 cu2 w8 hm2 hc2' hR2 hO2; have H2 := Lib.hid (F1'.out.pushU hR2 hO2); have X2 := Lib.hid (show Bk _ q7 _ from (X1'.out.only hO2 (fun hh => hh ⟨X1'.out.lt, fun e => absurd (HQ7.out.1 _ e) (Nat.lt_irrefl _)⟩)).other (b' := q6) (k := 1) (.slice au2 (nu + 1) cu2) (by have := HQ7.out.2.2; omega)); have OW2 := Lib.hid (Ws.own ⟨hR2, hO2⟩); have z1 := (F1'.out.b.only hO2 (fun hh => hh ⟨F1'.out.b.lt, fun e => absurd F1'.out.q (F1'.out.u.av q6 e)⟩)).at_ 1 _ rfl; have zf := (F1'.out.b.only hO2 (fun hh => hh ⟨F1'.out.b.lt, fun e => absurd F1'.out.q (F1'.out.u.av q6 e)⟩)).fr 1; clear hR2 hO2; unfold maxLen at hm2)
        clear y0 y1 z1 zf
        generalize (World.setCell w8 _ _ : World) = W8 at *
        have y2 := H2.out.b.at_ 2 _ rfl
        have H2' := Lib.hid (H2.out.keep (al1 (.cells #[.bool true] 4)))
        have X2' := Lib.hid (X2.out.past (.cells #[.bool true] 4))
        have HLd := Lib.hid (show D.length + [true].length ≤ 100000000000 by have := HU.out.2; simp; omega)
        have HEd := Lib.hid (show D.length + [true].length = nu + 1 by have := HU.out.2; simp; omega)
        have hst : ∀ k, (Value.slice ad nu cd).ownBlock = some k → ¬ Tk (W8.alloc (.cells #[.bool true] 4)) (.slice ad nu cd) k := fun k hk hs => hs.2 hk
        have HST := Lib.hid hst
        clear hst
        go_upto_region 9 with (at_builtin; refine wpList_bools rfl (.tmp 41) (.tmp 43) rfl (Tk (W8.alloc (.cells #[.bool true] 4)) (.slice ad nu cd)) _ D [true] rfl ⟨H2'.out.d.row, HST.out⟩ (fun k hk => hk.1) _ rfl (src_oneB _) HLd.out _ HEd.out _ rfl ?_; intro ad2 cd2 w9 hm3 hc3' hR3 hO3; have H3 := Lib.hid (H2'.out.pushD hR3 hO3); have X3 := Lib.hid (show Bk _ q7 _ from (X2'.out.only hO3 (fun hh => hh ⟨X2'.out.lt, fun e => absurd (HQ7.out.2.1 _ e) (Nat.lt_irrefl _)⟩)).other (b' := q6) (k := 2) (.slice ad2 (nu + 1) cd2) (by have := HQ7.out.2.2; omega)); have z2 := (H2'.out.b.only hO3 (fun hh => hh ⟨H2'.out.b.lt, fun e => absurd H2'.out.q (H2'.out.d.av q6 e)⟩)).at_ 2 _ rfl; have zf2 := (H2'.out.b.only hO3 (fun hh => hh ⟨H2'.out.b.lt, fun e => absurd H2'.out.q (H2'.out.d.av q6 e)⟩)).fr 2; clear hR3 hO3; unfold maxLen at hm3)
        clear y2 z2 zf2
        generalize (World.setCell w9 _ _ : World) = W9 at *
        have v0 := H3.out.b.at_ 0 _ rfl
        have vf := H3.out.b.fr 0
        have x2 := X3.out.at_ 2 _ rfl
        have x3 := X3.out.at_ 3 _ rfl
        have hq67 : ¬ q6 = q7 := by have := HQ7.out.2.2; omega
        have hq76 : ¬ q7 = q6 := by have := HQ7.out.2.2; omega
        go_wp2_with (fail)
        go_roundg zr.pre.length
        case measure => simp [Sh.pre]; omega
        case rel =>
          obtain ⟨eU, eD, eI⟩ := EE.out
          have e1 := HU.out.1
          have e2 := HU.out.2
          exact ⟨zr, _, _, U ++ [(i : Int)], D ++ [true], au2, ad2, nu + 1, cu2, cd2, rfl, HZ.out, by simp; omega, by simp; omega, by rw [← eU]; simp [preI], by rw [← eD]; simp, eI, (((H3.out.setX (zl.top : Int)).setX (zr.top : Int)))⟩
      · have hk' : decide (k ≤ key) = false := decide_eq_false hk
        have eK := hkN hk
        rw [eK] at EE
        have HZ := Lib.hid (show Hangs N zl (zl.top : Int) _ _ from hlt ▸ hl)
        subst hlt
        subst hrt
        have F1 := Lib.hid (FF.out.keep (al1 (.cells #[.bool true, .int .i64 k, .int .i64 (zl.top : Int), .int .i64 (zr.top : Int), .slice pa p.length pc, .int .i64 sx] 49)))
        have X1 := Lib.hid (Bk.new wr #[.bool true, .int .i64 k, .int .i64 (zl.top : Int), .int .i64 (zr.top : Int), .slice pa p.length pc, .int .i64 sx] 49)
        obtain ⟨q7, hq7⟩ : ∃ q, wr.heap.size = q := ⟨_, rfl⟩
        have HQ7 := Lib.hid (show (∀ k, (Value.slice au nu cu).ownBlock = some k → k < q7) ∧ (∀ k, (Value.slice ad nu cd).ownBlock = some k → k < q7) ∧ q6 < q7 from by rw [← hq7]; exact ⟨fun k hk => (FF.out.u.row.lt k hk).2, fun k hk => (FF.out.d.row.lt k hk).2, FF.out.b.lt⟩)
        have hqx : wr.heap.size = q7 := hq7
        go_upto_region 7 with (fail)
        rw [hqx] at X1
        clear hqx hq7 e0 e1 e2 e3 e4 e5 j0 j1 p0 p1 p2 eK hkY hkN hl hrr fp
        generalize (World.alloc wr _ : World) = W7 at *
        have y0 := F1.out.b.at_ 0 _ rfl
        have y1 := F1.out.b.at_ 1 _ rfl
        have F1' := Lib.hid (F1.out.keep (al1 (.cells #[.int .i64 (i : Int)] 3)))
        have X1' := Lib.hid (X1.out.past (.cells #[.int .i64 (i : Int)] 3))
        have HL := Lib.hid (show U.length + [(i : Int)].length ≤ 100000000000 by have := HU.out.1; simp; omega)
        have HE := Lib.hid (show U.length + [(i : Int)].length = nu + 1 by have := HU.out.1; simp; omega)
        go_upto_region 8 with (at_builtin; refine wpList_nums rfl (.tmp 34) (.tmp 37) rfl (Tk (W7.alloc (.cells #[.int .i64 (i : Int)] 3)) (.slice au nu cu)) _ U [(i : Int)] rfl (Ws.start F1'.out.u).n (fun k hk => hk.1) _ rfl (src_one _) HL.out _ HE.out _ rfl ?_; intro au2 cu2 w8 hm2 hc2' hR2 hO2; have H2 := Lib.hid (F1'.out.pushU hR2 hO2); have X2 := Lib.hid (show Bk _ q7 _ from (X1'.out.only hO2 (fun hh => hh ⟨X1'.out.lt, fun e => absurd (HQ7.out.1 _ e) (Nat.lt_irrefl _)⟩)).other (b' := q6) (k := 1) (.slice au2 (nu + 1) cu2) (by have := HQ7.out.2.2; omega)); have OW2 := Lib.hid (Ws.own ⟨hR2, hO2⟩); have z1 := (F1'.out.b.only hO2 (fun hh => hh ⟨F1'.out.b.lt, fun e => absurd F1'.out.q (F1'.out.u.av q6 e)⟩)).at_ 1 _ rfl; have zf := (F1'.out.b.only hO2 (fun hh => hh ⟨F1'.out.b.lt, fun e => absurd F1'.out.q (F1'.out.u.av q6 e)⟩)).fr 1; clear hR2 hO2; unfold maxLen at hm2)
        clear y0 y1 z1 zf
        generalize (World.setCell w8 _ _ : World) = W8 at *
        have y2 := H2.out.b.at_ 2 _ rfl
        have H2' := Lib.hid (H2.out.keep (al1 (.cells #[.bool false] 4)))
        have X2' := Lib.hid (X2.out.past (.cells #[.bool false] 4))
        have HLd := Lib.hid (show D.length + [false].length ≤ 100000000000 by have := HU.out.2; simp; omega)
        have HEd := Lib.hid (show D.length + [false].length = nu + 1 by have := HU.out.2; simp; omega)
        have hst : ∀ k, (Value.slice ad nu cd).ownBlock = some k → ¬ Tk (W8.alloc (.cells #[.bool false] 4)) (.slice ad nu cd) k := fun k hk hs => hs.2 hk
        have HST := Lib.hid hst
        clear hst
        go_upto_region 9 with (at_builtin; refine wpList_bools rfl (.tmp 41) (.tmp 43) rfl (Tk (W8.alloc (.cells #[.bool false] 4)) (.slice ad nu cd)) _ D [false] rfl ⟨H2'.out.d.row, HST.out⟩ (fun k hk => hk.1) _ rfl (src_oneB _) HLd.out _ HEd.out _ rfl ?_; intro ad2 cd2 w9 hm3 hc3' hR3 hO3; have H3 := Lib.hid (H2'.out.pushD hR3 hO3); have X3 := Lib.hid (show Bk _ q7 _ from (X2'.out.only hO3 (fun hh => hh ⟨X2'.out.lt, fun e => absurd (HQ7.out.2.1 _ e) (Nat.lt_irrefl _)⟩)).other (b' := q6) (k := 2) (.slice ad2 (nu + 1) cd2) (by have := HQ7.out.2.2; omega)); have z2 := (H2'.out.b.only hO3 (fun hh => hh ⟨H2'.out.b.lt, fun e => absurd H2'.out.q (H2'.out.d.av q6 e)⟩)).at_ 2 _ rfl; have zf2 := (H2'.out.b.only hO3 (fun hh => hh ⟨H2'.out.b.lt, fun e => absurd H2'.out.q (H2'.out.d.av q6 e)⟩)).fr 2; clear hR3 hO3; unfold maxLen at hm3)
        clear y2 z2 zf2
        generalize (World.setCell w9 _ _ : World) = W9 at *
        have v0 := H3.out.b.at_ 0 _ rfl
        have vf := H3.out.b.fr 0
        have x2 := X3.out.at_ 2 _ rfl
        have x3 := X3.out.at_ 3 _ rfl
        have hq67 : ¬ q6 = q7 := by have := HQ7.out.2.2; omega
        have hq76 : ¬ q7 = q6 := by have := HQ7.out.2.2; omega
        go_wp2_with (fail)
        go_roundg zl.pre.length
        case measure => simp [Sh.pre]; omega
        case rel =>
          obtain ⟨eU, eD, eI⟩ := EE.out
          have e1 := HU.out.1
          have e2 := HU.out.2
          exact ⟨zl, _, _, U ++ [(i : Int)], D ++ [false], au2, ad2, nu + 1, cu2, cd2, rfl, HZ.out, by simp; omega, by simp; omega, by rw [← eU]; simp [preI], by rw [← eD]; simp, eI, (H3.out.setX (zl.top : Int))⟩
end Go.Proofs.Ytijepfabkalcoaa

