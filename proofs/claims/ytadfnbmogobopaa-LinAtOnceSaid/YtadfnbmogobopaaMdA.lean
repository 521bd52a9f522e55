/- Two pairs of a row of one's own change places; the comparison by key; slices.swapRangeCmpFunc. No condition: lemmas. -/
import Derived.Test.YtadfnbmogobopaaMdM
import Derived.Test.YtadfnbmogobopaaLfA
import Derived.BigRegion
import Derived.Shelf.SlSortCmp.QuietGrown
namespace Go.Proofs.Ytadfnbmogobopaa
open Go.RowKit Go.Sort
set_option linter.all false

theorem cellsP_set (l : List Pr) : ∀ (i : Nat) (q : Pr), cellsP (l.set i q) = ((cellsP l).set (i * 2) (.int .i64 q.1)).set (i * 2 + 1) (.int .i64 q.2) := by
  induction l with
  | nil => intro i q; simp [cellsP]
  | cons x l ih =>
    intro i q
    cases i with
    | zero => simp [cellsP]
    | succ i =>
      have e : (i + 1) * 2 = i * 2 + 1 + 1 := by omega
      rw [e]
      simp only [List.set_cons_succ, cellsP, ih i q]

/-- One pair of a row is written. -/
theorem PRow.set {w : World} {S : Nat → Prop} {g n cap : Nat} {l : List Pr} (h : PRow w S (.slice (some ⟨g, 0, none⟩) n cap) l) (hn : n = l.length) (i : Nat) (q : Pr) :
    PRow ((w.setCell ⟨g, i * 2, none⟩ (.int .i64 q.1)).setCell ⟨g, i * 2 + 1, none⟩ (.int .i64 q.2)) S (.slice (some ⟨g, 0, none⟩) n cap) (l.set i q) := by
  subst hn
  have h1 := h.row.stored (i * 2) (.int .i64 q.1)
  have h2 := h1.1.stored (i * 2 + 1) (.int .i64 q.2)
  refine ⟨?_, fun k hk => h.av k hk⟩
  rw [cellsP_set, List.length_set]
  exact h2.1
theorem only_set {w : World} {g : Nat} (a b : Nat) (u v : Value) : Only (fun k => k = g) w ((w.setCell ⟨g, a, none⟩ u).setCell ⟨g, b, none⟩ v) :=
  ((Only.refl (fun k => k = g) w).setCell (p := ⟨g, a, none⟩) (.inl rfl) u).setCell (p := ⟨g, b, none⟩) (.inl rfl) v

/-- The world in which two pairs have changed places. -/
def swW (w : World) (g i j : Nat) (p q : Pr) : World :=
  (((w.setCell ⟨g, i * 2, none⟩ (.int .i64 q.1)).setCell ⟨g, i * 2 + 1, none⟩ (.int .i64 q.2)).setCell ⟨g, j * 2, none⟩ (.int .i64 p.1)).setCell ⟨g, j * 2 + 1, none⟩ (.int .i64 p.2)

/-- A row of one's own that lies in block g, while other functions work on it: nothing else has turned. -/
structure Wk2 (w0 : World) (S : Nat → Prop) (g n cap : Nat) (w : World) (l : List Pr) : Prop where
  row : PRow w S (.slice (some ⟨g, 0, none⟩) n cap) l
  len : l.length = n
  o : Only (fun k => k = g) w0 w
theorem Wk2.start {w : World} {S : Nat → Prop} {g n cap : Nat} {l : List Pr} (h : PRow w S (.slice (some ⟨g, 0, none⟩) n cap) l) (hn : l.length = n) : Wk2 w S g n cap w l := ⟨h, hn, Only.refl _ _⟩
theorem Wk2.swap {w0 w : World} {S : Nat → Prop} {g n cap : Nat} {l : List Pr} (h : Wk2 w0 S g n cap w l) (i j : Nat) (p q : Pr) (hp : l[i]? = some p) (hq : l[j]? = some q) :
    Wk2 w0 S g n cap (swW w g i j p q) (swp l i j) := by
  have e1 : l.getD i (0, 0) = p := by simp [List.getD, hp]
  have e2 : l.getD j (0, 0) = q := by simp [List.getD, hq]
  refine ⟨?_, by rw [swp_len]; exact h.len, (h.o.trans (only_set _ _ _ _) (fun k hk _ => hk)).trans (only_set _ _ _ _) (fun k hk _ => hk)⟩
  unfold swp swW
  rw [e1, e2]
  exact (h.row.set h.len.symm i q).set (by rw [List.length_set]; exact h.len.symm) j p
theorem Wk2.drew {w0 w : World} {S : Nat → Prop} {g n cap : Nat} {l : List Pr} (h : Wk2 w0 S g n cap w l) : Wk2 w0 S g n cap w.drew l := ⟨⟨h.row.row, h.row.av⟩, h.len, h.o.drew⟩
theorem Wk2.below {w0 w w' : World} {S : Nat → Prop} {g n cap : Nat} {l : List Pr} (h : Wk2 w0 S g n cap w l) (hb : Below w.heap.size w w') : Wk2 w0 S g n cap w' l :=
  ⟨h.row.below hb, h.len, h.o.trans (Only.ofBelow hb) (fun k hk _ => hk)⟩
theorem Wk2.cell {w0 w : World} {S : Nat → Prop} {g n cap : Nat} {l : List Pr} (h : Wk2 w0 S g n cap w l) (i : Nat) (q : Pr) (hq : l[i]? = some q) :
    w.cell? ⟨g, i * 2, none⟩ = some (.int .i64 q.1) ∧ w.cell? ⟨g, i * 2 + 1, none⟩ = some (.int .i64 q.2) ∧ w.frozen? ⟨g, i * 2, none⟩ = false ∧ w.frozen? ⟨g, i * 2 + 1, none⟩ = false := by
  obtain ⟨b, o, e, c0, c1⟩ := (h.row.prs h.len.symm).2.2.1 i q hq
  cases e
  rw [Nat.zero_add] at c0 c1
  have hr := h.row.row
  have hl := h.len
  subst hl
  exact ⟨c0, c1, hr.frozenAt _, hr.frozenAt _⟩
theorem Wk2.hop {w0 w1 w : World} {S : Nat → Prop} {g n cap : Nat} {l l' : List Pr} (h : Wk2 w0 S g n cap w1 l) (k : Wk2 w1 S g n cap w l') : Wk2 w0 S g n cap w l' :=
  ⟨k.row, k.len, h.o.trans k.o (fun k hk _ => hk)⟩

set_option maxRecDepth 100000 in
set_option maxHeartbeats 6400000 in
theorem swr_any (g cap a b n : Nat) (l : List Pr) (S : Nat → Prop) (fv : Value) (w : World) (h : PRow w S (.slice (some ⟨g, 0, none⟩) l.length cap) l) (hl : l.length ≤ 10000000) (ha : a + n ≤ l.length) (hb : b + n ≤ l.length) (hab : ¬ a = b) :
    Calls Try.prog 75 #[.slice (some ⟨g, 0, none⟩) l.length cap, .int .i64 a, .int .i64 b, .int .i64 n, fv] w fun e w' => e = .returned (.tuple #[]) ∧ Wk2 w S g l.length cap w' (swR l a b n) := by
  have HS := Lib.hid (Wk2.start h rfl)
  clear h
  go_enter Try.func75, Try.ntmps75
  go_wp2_with (fail)
  go_loopw [10] (fun x wr => ∃ i : Nat, x = .int .i64 i ∧ i ≤ n ∧ Wk2 w S g l.length cap wr (swR l a b i)) (fun x _ => n - (intOf x).toNat)
  case atStart => exact ⟨0, rfl, Nat.zero_le _, HS.out⟩
  case round =>
    obtain ⟨i, rfl, hin, hW⟩ := hrel
    have HW := Lib.hid hW
    clear hW
    by_cases hlt : i < n
    · obtain ⟨x, hx⟩ : ∃ x : Nat, a + i = x := ⟨_, rfl⟩
      obtain ⟨y, hy⟩ : ∃ y : Nat, b + i = y := ⟨_, rfl⟩
      have hxI : (a : Int) + (i : Int) = (x : Int) := by omega
      have hyI : (b : Int) + (i : Int) = (y : Int) := by omega
      have hxy : ¬ x = y := by omega
      have rx : IntKind.i64.wrap ((a : Int) + (i : Int)) = (x : Int) := by rw [IntKind.wrap_i64]; omega
      have ry : IntKind.i64.wrap ((b : Int) + (i : Int)) = (y : Int) := by rw [IntKind.wrap_i64]; omega
      have hltI : (i : Int) < (n : Int) := by omega
      have hxl : (x : Int) < (l.length : Int) := by omega
      have hyl : (y : Int) < (l.length : Int) := by omega
      have hx0 : (0 : Int) ≤ (x : Int) := by omega
      have hy0 : (0 : Int) ≤ (y : Int) := by omega
      obtain ⟨p, hp⟩ : ∃ p, (swR l a b i)[x]? = some p := ⟨_, List.getElem?_eq_getElem (by rw [swR_len]; omega)⟩
      obtain ⟨q, hq⟩ : ∃ q, (swR l a b i)[y]? = some q := ⟨_, List.getElem?_eq_getElem (by rw [swR_len]; omega)⟩
      obtain ⟨p0, p1, p2, p3⟩ := HW.out.cell x p hp
      obtain ⟨q0, q1, q2, q3⟩ := HW.out.cell y q hq
      have HF := Lib.hid ((HW.out.swap x y p q hp hq).drew)
      obtain ⟨pk, pv⟩ := p
      obtain ⟨qk, qv⟩ := q
      dsimp only at p0 p1 q0 q1
      unfold swW at HF
      dsimp only at HF
      clear hp hq
      go_wp2_with (fail)
      go_region
      go_wp2_with (fail)
      go_roundw
      case rel => exact ⟨i + 1, by go_num, by omega, by subst hx; subst hy; exact HF.out⟩
      case measure => simp [intOf]; omega
    · obtain rfl : i = n := by omega
      go_wp2_with (fail)
      go_end0
      exact ⟨rfl, HW.out⟩
end Go.Proofs.Ytadfnbmogobopaa
