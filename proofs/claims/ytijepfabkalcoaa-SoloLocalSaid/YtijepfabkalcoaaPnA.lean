/- osierref1's plan: what its node tells, what holds of the plan all along. No condition: definitions and lemmas. plan.node: where it is bad, or nothing hangs. No condition: lemmas. plan.node at a route: where the route may not be. No condition: lemmas. -/
import Derived.Test.YtijepfabkalcoaaTrR
import Derived.Deep.CutRange
import Derived.Deep.CutBlock
import Derived.Deep.RegionHeld3
import Derived.Deep.RegionLaw
import Derived.Deep.QuietTactic
import Derived.BigQuiet
namespace Go.Proofs.Ytijepfabkalcoaa
open Go.RowKit
set_option linter.all false

/-- A bound of keys: none, or one number in a block. -/
abbrev Bd := Option (Nat × Int)
def bdv : Bd → Value
  | none => .slice none 0 0
  | some (g, _) => .slice (some ⟨g, 0, none⟩) 1 1
def bdo (o : Bd) : Option Int := o.map (fun z => z.2)
/-- The bound is read; its block is none of Q, nor the row's. -/
def BdOk (W : World) (Q : Nat → Prop) (vo : Value) (o : Bd) : Prop := ∀ g x, o = some (g, x) → W.cell? ⟨g, 0, none⟩ = some (.int .i64 x) ∧ ¬ Q g ∧ vo.ownBlock ≠ some g

/-- A plan in memory. -/
structure Pn (w0 : World) (W : World) (pb gs : Nat) (T : Int) (a : Option Addr) (cap : Nat) (N : List Nd) (sc : Nat) (vo : Value) (M : List RN) (sn : List Bool) (bad : Bool) : Prop where
  b : Bk W pb [.int .i64 T, .slice a N.length cap, vo, .slice (some ⟨gs, 0, none⟩) N.length sc, .bool bad]
  s : Bs W gs sn
  sl : sn.length = N.length
  r : NRow W (fun k => k < w0.heap.size ∨ k = pb ∨ k = gs) vo M
  z : Below w0.heap.size w0 W
  hp : w0.heap.size ≤ pb
  hs : w0.heap.size ≤ gs
  ne : pb ≠ gs
section
variable {w0 W W' : World} {pb gs : Nat} {T : Int} {a : Option Addr} {cap : Nat} {N : List Nd} {sc : Nat} {vo vo' : Value} {M M' : List RN} {sn : List Bool} {bad : Bool}
theorem Pn.keep (h : Pn w0 W pb gs T a cap N sc vo M sn bad) (hb : Below W.heap.size W W') : Pn w0 W' pb gs T a cap N sc vo M sn bad :=
  ⟨h.b.keep hb, h.s.keep hb, h.sl, h.r.keep hb, h.z.trans (hb.mono h.z.size), h.hp, h.hs, h.ne⟩
theorem Pn.drew (h : Pn w0 W pb gs T a cap N sc vo M sn bad) : Pn w0 W.drew pb gs T a cap N sc vo M sn bad := h.keep ((Below.refl _ _).drew)
theorem only_pb (x : Value) (j : Nat) : Only (fun k => k = pb) W (W.setCell ⟨pb, j, none⟩ x) := (Only.refl _ W).setCell (S := fun k => k = pb) (p := ⟨pb, j, none⟩) (.inl rfl) _
theorem only_gs (x : Value) (j : Nat) : Only (fun k => k = gs) W (W.setCell ⟨gs, j, none⟩ x) := (Only.refl _ W).setCell (S := fun k => k = gs) (p := ⟨gs, j, none⟩) (.inl rfl) _
/-- The plan is bad, or not, from now on. -/
theorem Pn.setBad (h : Pn w0 W pb gs T a cap N sc vo M sn bad) (b' : Bool) : Pn w0 (W.setCell ⟨pb, 4, none⟩ (.bool b')) pb gs T a cap N sc vo M sn b' := by
  have hO := only_pb (W := W) (pb := pb) (.bool b') 4
  refine ⟨h.b.set 4 _ (by simp), ⟨Nat.lt_of_lt_of_le h.s.lt hO.size, fun j v hj => hO.cell (h.s.at_ j v hj) (fun e => h.ne e.symm), fun j => by rw [World.frozen?_setCell]; exact h.s.fr j⟩, h.sl, h.r.only hO (fun k hk => .inr (.inl hk)), h.z.setCell h.hp _, h.hp, h.hs, h.ne⟩
theorem Pn.mark (h : Pn w0 W pb gs T a cap N sc vo M sn bad) (i : Nat) (hi : i < sn.length) : Pn w0 (W.setCell ⟨gs, i, none⟩ (.bool true)) pb gs T a cap N sc vo M (sn.set i true) bad := by
  have hO := only_gs (W := W) (gs := gs) (.bool true) i
  exact ⟨h.b.only hO (fun e => h.ne e), h.s.set i hi true, by rw [List.length_set]; exact h.sl, h.r.only hO (fun k hk => .inr (.inr hk)), h.z.setCell h.hs _, h.hp, h.hs, h.ne⟩
/-- Another row, told to the plan. -/
theorem Pn.row (h : Pn w0 W pb gs T a cap N sc vo M sn bad) (hR : NRow W' (fun k => k < w0.heap.size ∨ k = pb ∨ k = gs) vo' M') (hO : Only (fun k => vo.ownBlock = some k) W W') :
    Pn w0 (W'.setCell ⟨pb, 2, none⟩ vo') pb gs T a cap N sc vo' M' sn bad := by
  have hq : ∀ k, vo.ownBlock = some k → ¬ (k < w0.heap.size ∨ k = pb ∨ k = gs) := h.r.own
  have hO2 := only_pb (W := W') (pb := pb) vo' 2
  have hb := h.b.only hO (fun e => hq pb e (.inr (.inl rfl)))
  refine ⟨hb.set 2 _ (by simp), ⟨Nat.lt_of_lt_of_le h.s.lt (Nat.le_trans hO.size hO2.size), fun j v hj => hO2.cell (hO.cell (h.s.at_ j v hj) (fun e => hq gs e (.inr (.inr rfl)))) (fun e => h.ne e.symm), fun j => ?_⟩, h.sl, hR.only hO2 (fun k hk => .inr (.inl hk)), (h.z.trans (hO.below (B := w0.heap.size) (fun i hi => ?_) h.z.size)).setCell h.hp _, h.hp, h.hs, h.ne⟩
  · rw [World.frozen?_setCell]
    exact (World.frozen?_of_block (w := W) (a := ⟨gs, j, none⟩) (hO.block gs h.s.lt (fun e => hq gs e (.inr (.inr rfl))))).trans (h.s.fr j)
  · rcases Nat.lt_or_ge i w0.heap.size with h' | h'
    · exact absurd (.inl h') (hq i hi)
    · exact h'
end
/-- What comes of node: of a plan that is bad nothing; else the part that hangs there, if there is one. -/
def Po (N : List Nd) (sn : List Bool) (t : Int) (lo hi : Option Int) (M : List RN) (bad : Bool) (r : Int) (M' : List RN) (sn' : List Bool) (bad' : Bool) : Prop :=
  M.length ≤ M'.length ∧ (cnt sn' ≤ cnt sn ∧ M'.length + cnt sn' ≤ M.length + cnt sn) ∧ (bad = true → bad' = true) ∧
  (bad = false → (bad' = false → ∃ s, Part N sn t lo hi s ∧ r = M.length ∧ sn' = mark sn s.pre ∧ M'.map (fun z => z.n) = M.map (fun z => z.n) ++ lay N s M.length) ∧ (bad' = true → ∀ s, ¬ Part N sn t lo hi s))
def PnIs (w0 : World) (pb gs : Nat) (T : Int) (a : Option Addr) (cap : Nat) (N : List Nd) (sc : Nat) (vo : Value) (M : List RN) (sn : List Bool) (bad : Bool) (t : Int) (lo hi : Option Int) (W : World) (e : Ending) (w' : World) : Prop :=
  ∃ r vo' M' sn' bad', e = .returned (.int .i64 r) ∧ Pn w0 w' pb gs T a cap N sc vo' M' sn' bad' ∧ Only (fun k => k = pb ∨ k = gs ∨ vo.ownBlock = some k) W w' ∧ (∀ k, vo'.ownBlock = some k → vo.ownBlock = some k ∨ W.heap.size ≤ k) ∧ Po N sn t lo hi M bad r M' sn' bad'
/-- node does as it should, where fewer than f nodes have not been come to. -/
def PnOk (w0 : World) (pb gs : Nat) (T : Int) (a : Option Addr) (cap : Nat) (N : List Nd) (sc : Nat) (f : Nat) : Prop :=
  ∀ (W : World) (vo : Value) (M : List RN) (sn : List Bool) (bad : Bool) (t : Int) (lo hi : Bd), cnt sn < f → M.length + cnt sn ≤ N.length → Pn w0 W pb gs T a cap N sc vo M sn bad →
    BdOk W (fun k => k = pb ∨ k = gs) vo lo → BdOk W (fun k => k = pb ∨ k = gs) vo hi →
    Calls Try.prog 42 #[.pointer (some ⟨pb, 0, none⟩), .int .i64 t, bdv lo, bdv hi] W (PnIs w0 pb gs T a cap N sc vo M sn bad t (bdo lo) (bdo hi) W)

/-- The row's two cells of a node are written. -/
theorem Pn.cells {w0 W : World} {pb gs : Nat} {T : Int} {a : Option Addr} {cap : Nat} {N : List Nd} {sc : Nat} {g n c : Nat} {M : List RN} {sn : List Bool} {bad : Bool} (h : Pn w0 W pb gs T a cap N sc (.slice (some ⟨g, 0, none⟩) n c) M sn bad) {i : Nat} {m : RN} (hm : M[i]? = some m) (x y : Int) :
    Pn w0 ((W.setCell ⟨g, i * 6 + 2, none⟩ (.int .i64 x)).setCell ⟨g, i * 6 + 3, none⟩ (.int .i64 y)) pb gs T a cap N sc (.slice (some ⟨g, 0, none⟩) n c) (M.set i ⟨⟨m.n.r, m.n.k, x, y, m.n.p, m.n.s⟩, m.a, m.c⟩) sn bad := by
  have hq := h.r.own g rfl
  have hi := (List.getElem?_eq_some_iff.1 hm).1
  obtain ⟨p1, p2⟩ := h.r.prs m (List.mem_of_getElem? hm)
  have sep : m.n.p ≠ [] → ∀ b o sp, m.a = some ⟨b, o, sp⟩ → ¬ (b < w0.heap.size ∨ b = pb ∨ b = gs) ∧ g ≠ b := fun hp b o sp e => ⟨(p2 hp b o sp e).1, fun e' => (p2 hp b o sp e).2 (by rw [← e']; rfl)⟩
  have r1 := h.r.cell hm ⟨⟨m.n.r, m.n.k, x, m.n.b, m.n.p, m.n.s⟩, m.a, m.c⟩ 2 (.int .i64 x) (by decide) rfl p1 sep
  have hO1 : Only (fun k => k = g) W (W.setCell ⟨g, i * 6 + 2, none⟩ (.int .i64 x)) := (Only.refl _ W).setCell (S := fun k => k = g) (p := ⟨g, i * 6 + 2, none⟩) (.inl rfl) _
  have p1' := prs_only p1 hO1 (fun hp b o sp e hb => (sep hp b o sp e).2 hb.symm)
  have r2 := r1.cell (List.getElem?_set_self hi) ⟨⟨m.n.r, m.n.k, x, y, m.n.p, m.n.s⟩, m.a, m.c⟩ 3 (.int .i64 y) (by decide) rfl p1' sep
  rw [List.set_set] at r2
  have hO : Only (fun k => k = g) W ((W.setCell ⟨g, i * 6 + 2, none⟩ (.int .i64 x)).setCell ⟨g, i * 6 + 3, none⟩ (.int .i64 y)) := hO1.setCell (S := fun k => k = g) (p := ⟨g, i * 6 + 3, none⟩) (.inl rfl) _
  refine ⟨h.b.only hO (fun e => hq (.inr (.inl e.symm))), ⟨Nat.lt_of_lt_of_le h.s.lt hO.size, fun j v hj => hO.cell (h.s.at_ j v hj) (fun e => hq (.inr (.inr e.symm))), fun j => ?_⟩, h.sl, r2, h.z.trans (hO.below (B := w0.heap.size) (fun i hi => ?_) h.z.size), h.hp, h.hs, h.ne⟩
  · exact (World.frozen?_of_block (w := W) (a := ⟨gs, j, none⟩) (hO.block gs h.s.lt (fun e => hq (.inr (.inr e.symm))))).trans (h.s.fr j)
  · rcases Nat.lt_or_ge i w0.heap.size with h' | h'
    · exact absurd (.inl (by rw [← hi]; exact h')) hq
    · exact h'
section
variable {N : List Nd} {sn : List Bool} {t : Int} {lo hi : Option Int} {M : List RN} {r : Int}
theorem po_bad : Po N sn t lo hi M true r M sn true := ⟨Nat.le_refl _, ⟨Nat.le_refl _, Nat.le_refl _⟩, fun _ => rfl, fun h => (by cases h)⟩
theorem po_no {sn' : List Bool} (h : ∀ s, ¬ Part N sn t lo hi s) (hc : cnt sn' ≤ cnt sn) : Po N sn t lo hi M false r M sn' true :=
  ⟨Nat.le_refl _, ⟨hc, by omega⟩, fun _ => rfl, fun _ => ⟨fun h => (by cases h), fun _ => h⟩⟩
theorem po_leaf {i : Nat} {n : Nd} (ht : t = (i : Int)) (hn : N[i]? = some n) (hr : n.r = false) (hs : sn[i]? = some false) (B : Bool) (hB : B = false ↔ okL n lo hi) (m : RN) (hm : m.n = n) : Po N sn t lo hi M false (M.length : Int) (M ++ [m]) (sn.set i true) B := by
  refine ⟨by simp, ⟨cnt_set_le _ _, by have := cnt_set hs; simp; omega⟩, fun h => (by cases h), fun _ => ⟨fun hb => ⟨.lf i, part_lf ht hn hr hs (hB.1 hb), rfl, rfl, ?_⟩, fun hb => part_lf_no ht hn hr (fun h => by rw [hB.2 h] at hb; cases hb)⟩⟩
  simp [lay, nd_of hn, hm]
theorem po_rt {i : Nat} {n : Nd} (ht : t = (i : Int)) (hn : N[i]? = some n) (hr : n.r = true) (hs : sn[i]? = some false) (h : okR n lo hi) {M1 M2 : List RN} {sn1 sn2 : List Bool} {r1 r2 : Int} {bad1 bad2 : Bool} {m0 m : RN}
    (h1 : Po N (sn.set i true) n.a lo (some n.k) (M ++ [m0]) false r1 M1 sn1 bad1) (h2 : Po N sn1 n.b (some n.k) hi M1 bad1 r2 M2 sn2 bad2) (hm0 : m0.n = ⟨true, n.k, 0, 0, [], 0⟩) (hm : M2[M.length]? = some m) :
    Po N sn t lo hi M false (M.length : Int) (M2.set M.length ⟨⟨m.n.r, m.n.k, r1, r2, m.n.p, m.n.s⟩, m.a, m.c⟩) sn2 bad2 := by
  obtain ⟨a1, a2, a3, a4⟩ := h1
  obtain ⟨b1, b2, b3, b4⟩ := h2
  have hl1 : M.length + 1 ≤ M1.length := by simpa using a1
  have hcs := cnt_set hs
  have a2' := a2.2
  simp at a2'
  refine ⟨by rw [List.length_set]; omega, ⟨Nat.le_trans b2.1 (Nat.le_trans a2.1 (cnt_set_le _ _)), by rw [List.length_set]; omega⟩, fun h => (by cases h), fun _ => ⟨fun hb => ?_, fun hb => ?_⟩⟩
  · have hb1 : bad1 = false := by
      cases bad1
      · rfl
      · have := b3 rfl; rw [hb] at this; cases this
    obtain ⟨sl, p1, q1, r1', s1⟩ := (a4 rfl).1 hb1
    obtain ⟨sr, p2, q2, r2', s2⟩ := (b4 hb1).1 hb
    rw [r1'] at p2 r2'
    have hM1 : M1.length = M.length + 1 + sl.pre.length := by
      have := congrArg List.length s1
      simp [lay_len] at this
      omega
    refine ⟨.rt i sl sr, part_rt ht hn hr hs h p1 p2, rfl, ?_, ?_⟩
    · rw [r2']
      show mark (mark (sn.set i true) sl.pre) sr.pre = mark sn (i :: (sl.pre ++ sr.pre))
      rw [mark_cons, mark_app]
    · have hmn : m.n = m0.n := by
        have h1 : (M2.map (fun z => z.n))[M.length]? = some m.n := by rw [List.getElem?_map, hm]; rfl
        rw [s2, s1] at h1
        simpa [hM1, List.getElem?_append] using h1.symm
      rw [List.map_set, s2, s1, hmn, hm0, q1, q2, hM1]
      simp only [List.map_append, List.map_cons, List.map_nil, lay, nd_of hn, List.append_assoc]
      rw [List.set_append_right _ _ (by simp)]
      simp
  · intro s hp
    cases hb1 : bad1 with
    | true =>
      exact part_left_no ht hn hr ((a4 rfl).2 hb1) s hp
    | false =>
      obtain ⟨sl, p1, q1, r1', s1⟩ := (a4 rfl).1 hb1
      have h2 := (b4 hb1).2 hb
      rw [r1'] at h2
      exact part_right_no ht hn hr p1 h2 s hp
end
end Go.Proofs.Ytijepfabkalcoaa

namespace Go.Proofs.Ytijepfabkalcoaa
open Go.RowKit
set_option linter.all false

section
variable {w0 W : World} {pb gs : Nat} {T : Int} {a : Option Addr} {cap : Nat} {N : List Nd} {sc : Nat} {vo : Value} {M : List RN} {sn : List Bool} {lo hi : Value} {t : Int}
set_option maxRecDepth 100000 in
set_option maxHeartbeats 6400000 in
theorem node_bad (hP : Pn w0 W pb gs T a cap N sc vo M sn true) (hl : N.length ≤ 2000)  :
    Calls Try.prog 42 #[.pointer (some ⟨pb, 0, none⟩), .int .i64 t, lo, hi] W fun e w' => e = .returned (.int .i64 0) ∧ w' = W.setCell ⟨pb, 4, none⟩ (.bool true) := by
  have p1 := hP.b.at_ 1 _ rfl
  have p3 := hP.b.at_ 3 _ rfl
  have p4 := hP.b.at_ 4 _ rfl
  have f4 := hP.b.fr 4
  clear hP
  go_enter Try.func42, Try.ntmps42
  go_wp2_with (fail)
  go_ret
  exact ⟨rfl, rfl⟩
set_option maxRecDepth 100000 in
set_option maxHeartbeats 6400000 in
theorem node_neg (hP : Pn w0 W pb gs T a cap N sc vo M sn false) (hl : N.length ≤ 2000) (h0 : t < 0) :
    Calls Try.prog 42 #[.pointer (some ⟨pb, 0, none⟩), .int .i64 t, lo, hi] W fun e w' => e = .returned (.int .i64 0) ∧ w' = W.setCell ⟨pb, 4, none⟩ (.bool true) := by
  have p1 := hP.b.at_ 1 _ rfl
  have p3 := hP.b.at_ 3 _ rfl
  have p4 := hP.b.at_ 4 _ rfl
  have f4 := hP.b.fr 4
  clear hP
  go_enter Try.func42, Try.ntmps42
  go_wp2_with (fail)
  go_ret
  exact ⟨rfl, rfl⟩
set_option maxRecDepth 100000 in
set_option maxHeartbeats 6400000 in
theorem node_over (hP : Pn w0 W pb gs T a cap N sc vo M sn false) (hl : N.length ≤ 2000) (h0 : (N.length : Int) ≤ t) :
    Calls Try.prog 42 #[.pointer (some ⟨pb, 0, none⟩), .int .i64 t, lo, hi] W fun e w' => e = .returned (.int .i64 0) ∧ w' = W.setCell ⟨pb, 4, none⟩ (.bool true) := by
  have p1 := hP.b.at_ 1 _ rfl
  have p3 := hP.b.at_ 3 _ rfl
  have p4 := hP.b.at_ 4 _ rfl
  have f4 := hP.b.fr 4
  have h1 : ¬ t < 0 := by omega
  clear hP
  go_enter Try.func42, Try.ntmps42
  go_wp2_with (fail)
  go_ret
  exact ⟨rfl, rfl⟩
set_option maxRecDepth 100000 in
set_option maxHeartbeats 6400000 in
theorem node_seen (hP : Pn w0 W pb gs T a cap N sc vo M sn false) (hl : N.length ≤ 2000) {i : Nat} (hil : i < N.length) (hs : sn[i]? = some true) (ht : t = (i : Int)) :
    Calls Try.prog 42 #[.pointer (some ⟨pb, 0, none⟩), .int .i64 t, lo, hi] W fun e w' => e = .returned (.int .i64 0) ∧ w' = W.setCell ⟨pb, 4, none⟩ (.bool true) := by
  have p1 := hP.b.at_ 1 _ rfl
  have p3 := hP.b.at_ 3 _ rfl
  have p4 := hP.b.at_ 4 _ rfl
  have f4 := hP.b.fr 4
  subst ht
  have c0 := hP.s.at_ i _ hs
  have h0 : (0 : Int) ≤ (i : Int) := by omega
  have h1 : (i : Int) < (N.length : Int) := by omega
  clear hs
  clear hP
  go_enter Try.func42, Try.ntmps42
  go_wp2_with (fail)
  go_ret
  exact ⟨rfl, rfl⟩
end
theorem pn_of_bad {w0 W : World} {pb gs : Nat} {T : Int} {a : Option Addr} {cap : Nat} {N : List Nd} {sc : Nat} {vo : Value} {M : List RN} {sn : List Bool} {bad : Bool} (hP : Pn w0 W pb gs T a cap N sc vo M sn bad) {t : Int} {lo hi : Option Int} {e : Ending} {w' : World} (h : e = .returned (.int .i64 0) ∧ w' = W.setCell ⟨pb, 4, none⟩ (.bool true)) (hn : bad = false → ∀ s, ¬ Part N sn t lo hi s) :
    PnIs w0 pb gs T a cap N sc vo M sn bad t lo hi W e w' := by
  obtain ⟨rfl, rfl⟩ := h
  refine ⟨0, vo, M, sn, true, rfl, hP.setBad true, (only_pb _ _).mono (fun i hi _ => .inl hi), fun k hk => .inl hk, ?_⟩
  cases bad
  · exact po_no (hn rfl) (Nat.le_refl _)
  · exact po_bad
end Go.Proofs.Ytijepfabkalcoaa

namespace Go.Proofs.Ytijepfabkalcoaa
open Go.RowKit
set_option linter.all false

theorem BdOk.keep {W W' : World} {Q : Nat → Prop} {vo : Value} {o : Bd} (h : BdOk W Q vo o) (hb : Below W.heap.size W W') : BdOk W' Q vo o := fun g x e => ⟨kc hb (h g x e).1, (h g x e).2⟩
theorem BdOk.only {W W' : World} {Q S : Nat → Prop} {vo : Value} {o : Bd} (h : BdOk W Q vo o) (ho : Only S W W') (hS : ∀ k, S k → Q k) : BdOk W' Q vo o := fun g x e => ⟨ho.cell (h g x e).1 (fun hh => (h g x e).2.1 (hS g hh)), (h g x e).2⟩
theorem BdOk.none (W : World) (Q : Nat → Prop) (vo : Value) : BdOk W Q vo none := fun g x e => by cases e
attribute [local go_sem] undef
section
variable {w0 W : World} {pb gs : Nat} {T : Int} {a : Option Addr} {cap : Nat} {N : List Nd} {sc : Nat} {vo : Value} {M : List RN} {sn : List Bool} {lo hi : Bd} {t : Int}
set_option maxRecDepth 100000 in
set_option maxHeartbeats 6400000 in
theorem node_rt_no (hN : Ns w0 a cap N) (hsm : Small N) {i : Nat} {n : Nd} (hn : N[i]? = some n) (hr : n.r = true) (hs : sn[i]? = some false) (ht : t = (i : Int)) (hP : Pn w0 W pb gs T a cap N sc vo M sn false) (hlo : BdOk W (fun k => k = pb ∨ k = gs) vo lo) (hhi : BdOk W (fun k => k = pb ∨ k = gs) vo hi) (hk : ¬ okR n (bdo lo) (bdo hi)) :
    Calls Try.prog 42 #[.pointer (some ⟨pb, 0, none⟩), .int .i64 t, bdv lo, bdv hi] W (PnIs w0 pb gs T a cap N sc vo M sn false t (bdo lo) (bdo hi) W) := by
  have NO := Lib.hid (part_rt_no (sn := sn) ht hn hr hk)
  have hsl := hP.sl
  subst ht
  have hil := (List.getElem?_eq_some_iff.1 hn).1
  have hl1 := hsm.1
  have hc1 := hN.1
  have hc2 := hN.2.1
  have hpl := hsm.at hn
  unfold maxLen at hc2
  obtain ⟨ao, co, rfl, hco, hcm⟩ := hP.r.form
  unfold maxLen at hcm
  have P1 := Lib.hid (hP.mark i (by rw [hP.sl]; exact hil))
  have L1 := Lib.hid (hlo.only (only_gs (W := W) (gs := gs) (.bool true) i) (fun k hk => .inr hk))
  have L2 := Lib.hid (hhi.only (only_gs (W := W) (gs := gs) (.bool true) i) (fun k hk => .inr hk))
  obtain ⟨b, o, pa, pc, rfl, hna0⟩ := hN.2.2 i n hn
  have E := Lib.hid (hna0.keep P1.out.z)
  have c0 := hP.s.at_ i _ hs
  have fg := hP.s.fr i
  have p1 := hP.b.at_ 1 _ rfl
  have p3 := hP.b.at_ 3 _ rfl
  have p4 := hP.b.at_ 4 _ rfl
  have h0 : (0 : Int) ≤ (i : Int) := by omega
  have h1 : (i : Int) < (N.length : Int) := by omega
  have HG := Lib.hid (And.intro hP.b.lt (And.intro hP.s.lt (And.intro hP.ne (And.intro hP.hp hP.hs))))
  obtain ⟨r, k, l, b', p, s⟩ := n
  dsimp only at hr hpl E
  subst hr
  have HHN := Lib.hid hN
  have fin : ∀ nq : Nat, PnIs w0 pb gs T (some ⟨b, o, none⟩) cap N sc (.slice ao M.length co) M sn false (i : Int) (bdo lo) (bdo hi) W (.returned (.int .i64 0)) ((((W.setCell ⟨gs, i, none⟩ (.bool true)).alloc (.cells #[.bool true, .int .i64 k, .int .i64 l, .int .i64 b', .slice pa p.length pc, .int .i64 s] 49)).drewN nq).setCell ⟨pb, 4, none⟩ (.bool true)) := fun nq => by
    have hb : Below (W.setCell ⟨gs, i, none⟩ (.bool true)).heap.size (W.setCell ⟨gs, i, none⟩ (.bool true)) (((W.setCell ⟨gs, i, none⟩ (.bool true)).alloc (.cells #[.bool true, .int .i64 k, .int .i64 l, .int .i64 b', .slice pa p.length pc, .int .i64 s] 49)).drewN nq) := below_drewN (al1 _) nq
    refine ⟨0, _, M, sn.set i true, true, rfl, (P1.out.keep hb).setBad true, ?_, fun k hk => .inl hk, po_no NO.out (cnt_set_le _ _)⟩
    exact (((only_gs (W := W) (gs := gs) (.bool true) i).mono (fun i hi _ => .inr (.inl hi))).trans (Only.ofBelow hb) (fun i hi _ => hi)).setCell (S := fun k => k = pb ∨ k = gs ∨ (Value.slice ao M.length co).ownBlock = some k) (p := ⟨pb, 4, none⟩) (.inl (.inl rfl)) _
  have FIN0 := Lib.hid fin
  clear fin NO
  have hk2 : ¬ (p = [] ∧ s = 0 ∧ inS (bdo lo) (bdo hi) k ∧ bdo lo ≠ some k) := hk
  clear hk hn
  clear hP hna0 hs hlo hhi hN
  go_enter Try.func42, Try.ntmps42
  go_upto_region 5 with (fail)
  clear c0 fg p1 p3 p4
  generalize (World.setCell W _ _ : World) = W1 at *
  obtain ⟨e0, e1, e2, e3, e4, e5, dp⟩ := E.out
  dsimp only at e0 e1 e2 e3 e4 e5 dp
  have HDP := Lib.hid dp
  clear dp
  have P2 := Lib.hid (P1.out.keep (al1 (.cells #[.bool true, .int .i64 k, .int .i64 l, .int .i64 b', .slice pa p.length pc, .int .i64 s] 49)))
  have p1 := P1.out.b.at_ 1 _ rfl
  have q2 := P2.out.b.at_ 2 _ rfl
  have q4 := P2.out.b.at_ 4 _ rfl
  have f4 := P2.out.b.fr 4
  have FIN := FIN0.out
  clear FIN0 E
  by_cases hp0 : p = []
  case neg =>
    have hpp : ((p.length : Int) != 0) = true := by
      have := List.length_pos_iff.2 hp0
      simp; omega
    clear hp0 hk2
    go_wp2_with (fail)
    go_quiet (fail)
    go_wp2_with (fail)
    go_ret
    exact FIN _
  subst hp0
  try simp only [List.length_nil] at q2
  try simp only [List.length_nil] at q4
  try simp only [List.length_nil] at f4
  try simp only [List.length_nil] at P2
  try simp only [List.length_nil] at e4
  try simp only [List.length_nil] at FIN
  by_cases hs0 : s = 0
  case neg =>
    have hss : (s != 0) = true := by simpa using hs0
    clear hs0 hk2
    go_wp2_with (fail)
    go_quiet (fail)
    go_wp2_with (fail)
    go_ret
    exact FIN _
  subst hs0
  have hk3 : ¬ (inS (bdo lo) (bdo hi) k ∧ bdo lo ≠ some k) := fun h => hk2 ⟨rfl, rfl, h.1, h.2⟩
  clear hk2
  rcases lo with _ | ⟨gl, xl⟩
  · rcases hi with _ | ⟨gh, xh⟩
    · exact absurd ⟨inS_any k, fun h => by cases h⟩ hk3
    · have hx : xh ≤ k := by
        rcases Int.lt_or_le k xh with h | h
        · exact absurd ⟨⟨fun x hx => (by cases hx), fun y hy => (by cases hy; exact h)⟩, fun h => (by cases h)⟩ hk3
        · exact h
      have ch := kc (al1 (.cells #[.bool true, .int .i64 k, .int .i64 l, .int .i64 b', .slice pa 0 pc, .int .i64 0] 49)) (L2.out gh xh rfl).1
      clear hk3
      unfold bdv
      go_wp2_with (fail)
      go_quiet (fail)
      go_wp2_with (fail)
      go_ret
      exact FIN _
  · by_cases hx : k ≤ xl
    · have hxt : decide (k ≤ xl) = true := decide_eq_true hx
      have cl := kc (al1 (.cells #[.bool true, .int .i64 k, .int .i64 l, .int .i64 b', .slice pa 0 pc, .int .i64 0] 49)) (L1.out gl xl rfl).1
      clear hk3
      generalize bdv hi = vh
      unfold bdv
      go_wp2_with (fail)
      go_quiet (fail)
      go_wp2_with (fail)
      go_ret
      exact FIN _
    · have hxd : decide (k ≤ xl) = false := decide_eq_false hx
      have cl := kc (al1 (.cells #[.bool true, .int .i64 k, .int .i64 l, .int .i64 b', .slice pa 0 pc, .int .i64 0] 49)) (L1.out gl xl rfl).1
      rcases hi with _ | ⟨gh, xh⟩
      · refine absurd ⟨⟨fun x hx' => ?_, fun y hy => by cases hy⟩, fun h => ?_⟩ hk3
        · cases hx'; show xl ≤ k; omega
        · have : xl = k := by simpa [bdo] using h
          omega
      · have hx2 : xh ≤ k := by
          rcases Int.lt_or_le k xh with h | h
          · refine absurd ⟨⟨fun x hx' => ?_, fun y hy => ?_⟩, fun h' => ?_⟩ hk3
            · cases hx'; show xl ≤ k; omega
            · cases hy; exact h
            · have : xl = k := by simpa [bdo] using h'
              omega
          · exact h
        have ch := kc (al1 (.cells #[.bool true, .int .i64 k, .int .i64 l, .int .i64 b', .slice pa 0 pc, .int .i64 0] 49)) (L2.out gh xh rfl).1
        clear hk3 hx
        unfold bdv
        go_wp2_with (fail)
        go_quiet (fail)
        go_wp2_with (fail)
        go_ret
        exact FIN _
end
end Go.Proofs.Ytijepfabkalcoaa

