/- model.New: one map of pairs, the later one where a key stands twice. No condition: lemmas. (*model.Map).Do, Len, Pairs, Copy. No condition: lemmas. (*model.Map).Run. No condition: lemmas. How many operations a parameter may hold; a map beside rows of one's own. No condition: lemmas. -/
import Derived.Test.YtijepfabkalcoaaMdF
import Derived.Test.YtijepfabkalcoaaLfG
import Derived.OwnWalk
import Derived.Deep.RegionHeld3
import Derived.Test.YtijepfabkalcoaaLfO
namespace Go.Proofs.Ytijepfabkalcoaa
open Go.RowKit Go.Sort
set_option linter.all false
set_option maxRecDepth 20000

/-! ### Nothing to sort -/
theorem rev_zero (ao : Option Addr) (cap : Nat) (w : World) : Calls Try.prog 82 #[.slice ao 0 cap] w fun e w' => e = .returned (.tuple #[]) ∧ w' = w := by
  go_enter Try.func82, Try.ntmps82
  go_wp2_with (fail)
  refine wp_loop_rounds 1 ?_
  rw [rounds_succ]
  go_wp2_with (fail)
  go_end0
  exact ⟨rfl, rfl⟩
theorem inss_zero (ao : Option Addr) (cap : Nat) (fv : Value) (w : World) : Calls Try.prog 114 #[.slice ao 0 cap, .int .i64 0, .int .i64 0, fv] w fun e w' => e = .returned (.tuple #[]) ∧ w' = w := by
  go_enter Try.func114, Try.ntmps114
  go_wp2_with (fail)
  refine wp_loop_rounds 1 ?_
  rw [rounds_succ]
  go_wp2_with (fail)
  go_end0
  exact ⟨rfl, rfl⟩
theorem stable_zero (ao : Option Addr) (cap : Nat) (fv : Value) (w : World) : Calls Try.prog 101 #[.slice ao 0 cap, .int .i64 0, fv] w fun e w' => e = .returned (.tuple #[]) ∧ w' = w := by
  have c := fun W => inss_zero ao cap fv W
  go_enter Try.func101, Try.ntmps101
  go_wp2_with (fail)
  refine wp_loop_rounds 1 ?_
  rw [rounds_succ]
  go_wp2_with (go_at_call 114; ((with_reducible refine (c _).mono ?_); rintro e w' ⟨rfl, rfl⟩))
  refine wp_loop_rounds 1 ?_
  rw [rounds_succ]
  go_wp2_with (fail)
  go_end0
  exact ⟨rfl, rfl⟩
theorem sort_zero (ao : Option Addr) (cap : Nat) (fv : Value) (w : World) : Calls Try.prog 83 #[.slice ao 0 cap, fv] w fun e w' => e = .returned (.tuple #[]) ∧ w' = w := by
  have c := fun W => stable_zero ao cap fv W
  go_enter Try.func83, Try.ntmps83
  go_wp2_with (go_at_call 101; ((with_reducible refine (c _).mono ?_); rintro e w' ⟨rfl, rfl⟩))
  go_end0
  exact ⟨rfl, rfl⟩
theorem compact_less (ao : Option Addr) (n cap : Nat) (fv : Value) (h : n < 2) (w : World) : Calls Try.prog 86 #[.slice ao n cap, fv] w fun e w' => e = .returned (.slice ao n cap) ∧ w' = w := by
  have h' : (n : Int) < 2 := by omega
  go_enter Try.func86, Try.ntmps86
  go_wp2_with (fail)
  go_ret
  exact ⟨rfl, rfl⟩
theorem ded_less {l : List Pr} {n : Nat} (hn : l.length = n) (h : n < 2) : ded l n = l := by
  rw [ded_all n (by omega) (fun i x y h1 h2 => by omega), List.take_of_length_le (by omega)]
theorem compact_any (g cap n : Nat) (l : List Pr) (S : Nat → Prop) (w : World) (h : PRow w S (.slice (some ⟨g, 0, none⟩) n cap) l) (hn : l.length = n) (hl : n ≤ 10000000) :
    Calls Try.prog 86 #[.slice (some ⟨g, 0, none⟩) n cap, .func (.func 87) #[] #[]] w (CmpIs w S g cap (ded l n)) := by
  by_cases h2 : n < 2
  · refine (compact_less _ n cap _ h2 w).mono ?_
    rintro e w' ⟨rfl, rfl⟩
    rw [ded_less hn h2]
    unfold CmpIs
    rw [hn]
    exact ⟨rfl, h, Only.refl _ _⟩
  · exact compact_two g cap n l S w h hn hl (by omega)

/-! ### What a map of pairs has -/
/-- The pairs put one behind the other. -/
def putsL (l : List Pr) : List Pr := l.foldl (fun acc z => withL acc z.1 z.2) []
theorem withL_inn {l : List Pr} (h : Srt l) (k v : Int) (z : Pr) : z ∈ withL l k v ↔ z = (k, v) ∨ (z ∈ l ∧ z.1 ≠ k) := by
  rw [withL_srt l k v h]
  simp only [List.mem_append, List.mem_filter, List.mem_singleton, decide_eq_true_iff]
  constructor
  · rintro ((⟨h1, h2⟩ | h1) | ⟨h1, h2⟩)
    · exact .inr ⟨h1, by omega⟩
    · exact .inl h1
    · exact .inr ⟨h1, by omega⟩
  · rintro (h1 | ⟨h1, h2⟩)
    · exact .inl (.inr h1)
    · by_cases h3 : z.1 < k
      · exact .inl (.inl ⟨h1, h3⟩)
      · exact .inr ⟨h1, by omega⟩
theorem putsL_snoc (l : List Pr) (z : Pr) : putsL (l ++ [z]) = withL (putsL l) z.1 z.2 := by unfold putsL; rw [List.foldl_append]; rfl
theorem rev_ind {P : List Pr → Prop} (h0 : P []) (h1 : ∀ l z, P l → P (l ++ [z])) : ∀ l, P l := by
  intro l
  have : ∀ n (l : List Pr), l.length = n → P l := by
    intro n
    induction n with
    | zero => intro l hl; rw [List.eq_nil_of_length_eq_zero hl]; exact h0
    | succ n ih =>
      intro l hl
      have hne : l ≠ [] := by rintro rfl; simp at hl
      rw [← List.dropLast_concat_getLast hne]
      exact h1 _ _ (ih _ (by rw [List.length_dropLast]; omega))
  exact this _ l rfl
theorem putsL_srt : ∀ l : List Pr, Srt (putsL l) := rev_ind Srt.nil (fun l z h => by rw [putsL_snoc]; exact withL_is_srt _ _ _ h)
theorem putsL_find : ∀ (l : List Pr) (k : Int), (putsL l).find? (fun z => z.1 == k) = l.reverse.find? (fun z => z.1 == k) := rev_ind (fun k => rfl) (fun l z ih k => by
  rw [putsL_snoc, List.reverse_append]
  show _ = (z :: l.reverse).find? _
  have hs := withL_is_srt (putsL l) z.1 z.2 (putsL_srt l)
  rw [List.find?_cons]
  by_cases hz : z.1 = k
  · have e : (z.1 == k) = true := by simp [hz]
    rw [e]
    dsimp only
    rw [find_srt hs]
    exact ⟨(withL_inn (putsL_srt l) _ _ _).2 (.inl rfl), hz⟩
  · have e : (z.1 == k) = false := by simp [hz]
    rw [e]
    dsimp only
    rw [← ih k]
    apply Option.ext
    intro y
    rw [find_srt hs, find_srt (putsL_srt l), withL_inn (putsL_srt l)]
    constructor
    · rintro ⟨h1 | h1, h2⟩
      · subst h1; exact absurd h2 hz
      · exact ⟨h1.1, h2⟩
    · rintro ⟨h1, h2⟩
      exact ⟨.inr ⟨h1, by omega⟩, h2⟩)
/-- The last ones first, sorted, and the first of each key kept: the same. -/
theorem newL_is {l L : List Pr} (h : Le L) (hs : Stb l.reverse L) : ded L L.length = putsL l := by
  obtain ⟨h1, h2, h3⟩ := ded_is h L.length (Nat.le_refl _)
  refine srt_find h1 (putsL_srt l) (fun k => ?_)
  rw [h3 k, List.take_length, putsL_find, ← hs.find k]
/-- A map in block b: its pairs lie in none of S, among which b is. -/
structure MapAt (w : World) (S : Nat → Prop) (b : Nat) (L : List Pr) : Prop where
  sb : S b
  lt : b < w.heap.size
  ex : ∃ ao cap, w.cell? ⟨b, 0, none⟩ = some (.slice ao L.length cap) ∧ w.frozen? ⟨b, 0, none⟩ = false ∧ PRow w S (.slice ao L.length cap) L
theorem MapAt.below {w w' : World} {S : Nat → Prop} {b : Nat} {L : List Pr} (h : MapAt w S b L) (hb : Below w.heap.size w w') : MapAt w' S b L := by
  obtain ⟨ao, cap, h1, h2, h3⟩ := h.ex
  exact ⟨h.sb, Nat.lt_of_lt_of_le h.lt hb.size, ao, cap, (hb.cell (by exact h.lt)).trans h1, (World.frozen?_of_block (a := ⟨b, 0, none⟩) (hb.block b h.lt)).trans h2, h3.below hb⟩
theorem MapAt.sub {w : World} {S S' : Nat → Prop} {b : Nat} {L : List Pr} (h : MapAt w S b L) (hb : S' b) (hS : ∀ k, k < w.heap.size → S' k → S k) : MapAt w S' b L := by
  obtain ⟨ao, cap, h1, h2, h3⟩ := h.ex
  exact ⟨hb, h.lt, ao, cap, h1, h2, h3.sub hS⟩
theorem MapAt.only {w w' : World} {S T : Nat → Prop} {b : Nat} {L : List Pr} (h : MapAt w S b L) (o : Only T w w') (hb : ¬ T b) (hT : ∀ k, T k → S k) : MapAt w' S b L := by
  obtain ⟨ao, cap, h1, h2, h3⟩ := h.ex
  exact ⟨h.sb, Nat.lt_of_lt_of_le h.lt o.size, ao, cap, o.cell h1 hb, (World.frozen?_of_block (a := ⟨b, 0, none⟩) (o.block b h.lt hb)).trans h2, o.row h3.row (fun k hk hk2 => h3.av k hk (hT k hk2)), h3.av⟩

theorem clone_pos (a : Option Addr) (cap : Nat) (l : List Pr) (w : World) (h : Prs w a cap l) (h0 : 0 < l.length) (hl : l.length ≤ 1100000) :
    Calls Try.prog 50 #[.slice a l.length cap] w fun e w' => ∃ g cp, e = .returned (.slice (some ⟨g, 0, none⟩) l.length cp) ∧ PRow w' (fun j => j < w.heap.size) (.slice (some ⟨g, 0, none⟩) l.length cp) l ∧ Below w.heap.size w w' := by
  obtain ⟨q, hq⟩ : ∃ q, l[0]? = some q := ⟨_, List.getElem?_eq_getElem h0⟩
  obtain ⟨b, o, rfl, _⟩ := h.2.2.1 0 q hq
  refine (clone_some _ cap l w h hl).mono ?_
  rintro e w' ⟨ao, cp, rfl, hR, hb⟩
  obtain ⟨g, cap', e, _⟩ := row_at hR.row h0
  simp only [Value.slice.injEq, true_and] at e
  obtain ⟨rfl, rfl⟩ := e
  exact ⟨g, _, rfl, hR, hb⟩

/-- What model.New tells. -/
def NewIs (w : World) (L : List Pr) (e : Ending) (w' : World) : Prop :=
  ∃ b, e = .returned (.pointer (some ⟨b, 0, none⟩)) ∧ w.heap.size ≤ b ∧ MapAt w' (fun j => j < w.heap.size ∨ j = b) b L ∧ Below w.heap.size w w'

set_option maxRecDepth 100000 in
set_option maxHeartbeats 6400000 in
theorem new_pos (a : Option Addr) (cap : Nat) (l : List Pr) (w : World) (h : Prs w a cap l) (h0 : 0 < l.length) (hl : l.length ≤ 1100000) :
    Calls Try.prog 55 #[.slice a l.length cap] w (NewIs w (putsL l)) := by
  have c1 := clone_pos a cap l w h h0 hl
  have HL := Lib.hid hl
  clear h h0 hl
  obtain ⟨n, hn⟩ : ∃ n, l.length = n := ⟨_, rfl⟩
  rw [hn] at c1 ⊢
  have HN := Lib.hid hn
  clear hn
  go_enter Try.func55, Try.ntmps55
  go_wp2_with (first
    | (go_at_call 50; ((with_reducible refine c1.mono ?_); clear c1; rintro e w1 ⟨g, cp, rfl, hR, hb1⟩; have HW := Lib.hid (Wk2.start (hR.more (.cells #[.slice (some ⟨g, 0, none⟩) n cp] 129)) HN.out); have hgl : g < w1.heap.size := (hR.row.lt g rfl).2; have hgw : ¬ g = w1.heap.size := (fun e => by omega); have HGW : Hid (w.heap.size ≤ g) := Lib.hid (Nat.le_of_not_lt (hR.av g rfl)); have HG := Lib.hid hgw; have HGG := Lib.hid hgl; have k0 : (w1.alloc (.cells #[.slice (some ⟨g, 0, none⟩) n cp] 129)).cell? ⟨w1.heap.size, 0, none⟩ = some (.slice (some ⟨g, 0, none⟩) n cp) := (by simp); have HB1 := Lib.hid hb1; clear hR hb1 hgw hgl))
    | (go_at_call 82; ((with_reducible refine (rev_any g cp n l _ _ HW.out.row HN.out (by have := HN.out; have := HL.out; omega)).mono ?_); rintro e w2 ⟨rfl, hW2⟩; have HW2 := Lib.hid (HW.out.hop hW2); have k2 := hW2.o.cell k0 (fun e => HG.out e.symm); clear hW2 k0))
    | (go_at_call 83; ((with_reducible refine (sort_any g cp n _ _ _ HW2.out.row HW2.out.len (by have := HN.out; have := HL.out; omega)).mono ?_); rintro e w3 ⟨rfl, L, l1, l2, hW3⟩; have HS := Lib.hid (And.intro l1 l2); have HW3 := Lib.hid (HW2.out.hop hW3); have k3 := hW3.o.cell k2 (fun e => HG.out e.symm); clear hW3 k2 l1 l2))
    | (go_at_call 86; ((with_reducible refine (compact_any g cp n L _ _ HW3.out.row HW3.out.len (by have := HN.out; have := HL.out; omega)).mono ?_); rintro e w4 ⟨rfl, hR4, hO4⟩; have k4 := hO4.cell k3 (fun e => HG.out e.symm); have HR4 := Lib.hid hR4; have HO4 := Lib.hid (HW3.out.o.trans hO4 (fun k hk _ => hk)); have f4 : w4.frozen? ⟨w1.heap.size, 0, none⟩ = false := (World.frozen?_of_block (a := ⟨w1.heap.size, 0, none⟩) (HO4.out.block _ (by simp) (fun e => HG.out e.symm))).trans (by simp); clear hR4 hO4 k3)))
  go_ret
  have hn := HN.out
  have hL : (ded L n) = putsL l := by
    have e := newL_is HS.out.1 HS.out.2
    rw [HW3.out.len] at e
    exact e
  rw [hL] at HR4 ⊢
  have ba : Below w.heap.size w (w1.alloc (.cells #[.slice (some ⟨g, 0, none⟩) n cp] 129)) := HB1.out.alloc HB1.out.size _
  have b4 : Below w.heap.size w w4 := ba.trans (HO4.out.below (fun i hi => by rw [hi]; exact HGW.out) ba.size)
  have o5 : Only (fun k => k = w1.heap.size) w4 (w4.setCell ⟨w1.heap.size, 0, none⟩ (.slice (some ⟨g, 0, none⟩) (putsL l).length cp)) := (Only.refl (fun k => k = w1.heap.size) w4).setCell (p := ⟨w1.heap.size, 0, none⟩) (.inl rfl) _
  refine ⟨w1.heap.size, rfl, HB1.out.size, ⟨.inr rfl, ?_, some ⟨g, 0, none⟩, cp, ?_, ?_, ?_⟩, b4.trans (o5.below (fun i hi => by rw [hi]; exact HB1.out.size) b4.size)⟩
  · have := HO4.out.size
    have := o5.size
    simp at *
    omega
  · exact World.cell?_setCell_same _ _ _ k4
  · rw [World.frozen?_setCell]; exact f4
  · exact ⟨o5.row HR4.out.row (fun k hk e => HR4.out.av k hk (.inr e)), HR4.out.av⟩
set_option maxHeartbeats 1600000 in
theorem new_nil (a : Option Addr) (cap : Nat) (w : World) (h : Prs w a cap []) : Calls Try.prog 55 #[.slice a 0 cap] w (NewIs w []) := by
  have c1 : Calls Try.prog 50 #[.slice a 0 cap] w fun e w' => ∃ ao cp, e = .returned (.slice ao 0 cp) ∧ PRow w' (fun j => j < w.heap.size) (.slice ao 0 cp) [] ∧ Below w.heap.size w w' :=
    (clone_any a cap [] w h (by simp)).mono (fun e w' hh => by
      obtain ⟨ao, cp, rfl, h1, h2⟩ := hh
      exact ⟨ao, cp, rfl, h1, h2⟩)
  clear h
  have c2 := fun ao cp W => rev_zero ao cp W
  have c3 := fun ao cp fv W => sort_zero ao cp fv W
  have c4 := fun ao cp fv W => compact_less ao 0 cp fv (by omega) W
  go_enter Try.func55, Try.ntmps55
  go_wp2_with (first
    | (go_at_call 50; ((with_reducible refine c1.mono ?_); clear c1; rintro e w1 ⟨ao, cp, rfl, hR, hb1⟩; have HR := Lib.hid (hR.more (.cells #[.slice ao 0 cp] 129)); have HB1 := Lib.hid hb1; clear hR hb1))
    | (go_at_call 82; ((with_reducible refine (c2 _ _ _).mono ?_); rintro e w2 ⟨rfl, rfl⟩))
    | (go_at_call 83; ((with_reducible refine (c3 _ _ _ _).mono ?_); rintro e w3 ⟨rfl, rfl⟩))
    | (go_at_call 86; ((with_reducible refine (c4 _ _ _ _).mono ?_); rintro e w4 ⟨rfl, rfl⟩)))
  go_ret
  have ba : Below w.heap.size w (w1.alloc (.cells #[.slice ao 0 cp] 129)) := HB1.out.alloc HB1.out.size _
  generalize hw2 : w1.alloc (.cells #[.slice ao 0 cp] 129) = w2 at *
  have k2 : w2.cell? ⟨w1.heap.size, 0, none⟩ = some (.slice ao 0 cp) := by rw [← hw2]; simp
  have f2 : w2.frozen? ⟨w1.heap.size, 0, none⟩ = false := by rw [← hw2]; simp
  have z2 : w1.heap.size < w2.heap.size := by rw [← hw2]; simp
  exact ⟨w1.heap.size, rfl, HB1.out.size, ⟨.inr rfl, z2, ao, cp, k2, f2, HR.out⟩, ba⟩
theorem new_any (a : Option Addr) (cap : Nat) (l : List Pr) (w : World) (h : Prs w a cap l) (hl : l.length ≤ 1100000) :
    Calls Try.prog 55 #[.slice a l.length cap] w (NewIs w (putsL l)) := by
  rcases Nat.eq_zero_or_pos l.length with h0 | h0
  · have e : l = [] := List.eq_nil_of_length_eq_zero h0
    subst e
    exact new_nil a cap w h
  · exact new_pos a cap l w h h0 hl
end Go.Proofs.Ytijepfabkalcoaa

namespace Go.Proofs.Ytijepfabkalcoaa
open Go.RowKit Go.Sort
set_option linter.all false
set_option maxRecDepth 20000

theorem MapAt.prs {w : World} {S : Nat → Prop} {b : Nat} {L : List Pr} (h : MapAt w S b L) : ∃ ao cap, w.cell? ⟨b, 0, none⟩ = some (.slice ao L.length cap) ∧ w.frozen? ⟨b, 0, none⟩ = false ∧ Prs w ao cap L := by
  obtain ⟨ao, cap, h1, h2, h3⟩ := h.ex
  exact ⟨ao, cap, h1, h2, h3.prs rfl⟩
theorem frozen_keep {W W' : World} {b j : Nat} (h : W.frozen? ⟨b, j, none⟩ = false) (hl : b < W.heap.size) (hb : Below W.heap.size W W') : W'.frozen? ⟨b, j, none⟩ = false :=
  (World.frozen?_of_block (a := ⟨b, j, none⟩) (hb.block b hl)).trans h

theorem AC.only {W W' : World} {T : Nat → Prop} {b : Nat} {e k v n : Int} {o : Bool} {p : Value} (h : AC W b e o k v n p) (ho : Only T W W') (hb : ¬ T b) : AC W' b e o k v n p := by
  have hl := h.lt
  have c : ∀ {j v}, W.cell? ⟨b, j, none⟩ = some v → W'.cell? ⟨b, j, none⟩ = some v := fun {j v} hc => ho.cell hc hb
  have f : ∀ {j}, W.frozen? ⟨b, j, none⟩ = false → W'.frozen? ⟨b, j, none⟩ = false := fun {j} hf => (World.frozen?_of_block (a := ⟨b, j, none⟩) (ho.block b hl hb)).trans hf
  exact ⟨c h.z0, c h.z1, c h.z2, c h.z3, c h.z4, c h.z5, f h.f0, f h.f1, f h.f2, f h.f3, f h.f4, f h.f5⟩
theorem only_one {w : World} (b j : Nat) (u : Value) : Only (fun k => k = b) w (w.setCell ⟨b, j, none⟩ u) := (Only.refl (fun k => k = b) w).setCell (p := ⟨b, j, none⟩) (.inl rfl) u
/-- A block that holds an operation. -/
structure O4 (x : Nat) (c k hi v : Int) (W : World) : Prop where
  p0 : W.cell? ⟨x, 0, none⟩ = some (.int .i64 c)
  p1 : W.cell? ⟨x, 1, none⟩ = some (.int .i64 k)
  p2 : W.cell? ⟨x, 2, none⟩ = some (.int .i64 hi)
  p3 : W.cell? ⟨x, 3, none⟩ = some (.int .i64 v)
theorem O4.keep {x : Nat} {c k hi v : Int} {W W' : World} (h : O4 x c k hi v W) (hb : Below W.heap.size W W') : O4 x c k hi v W' := ⟨cell_keep h.p0 hb, cell_keep h.p1 hb, cell_keep h.p2 hb, cell_keep h.p3 hb⟩
theorem O4.set {x : Nat} {c k hi v : Int} {W : World} {y j : Nat} (h : O4 x c k hi v W) (hne : x ≠ y) (u : Value) : O4 x c k hi v (W.setCell ⟨y, j, none⟩ u) := by
  have o : ∀ i, (⟨x, i, none⟩ : Addr) ≠ ⟨y, j, none⟩ := fun i e => hne (by simpa using congrArg Addr.block e)
  exact ⟨(World.cell?_setCell_other _ _ _ _ (fun e => o 0 e.symm)).trans h.p0, (World.cell?_setCell_other _ _ _ _ (fun e => o 1 e.symm)).trans h.p1, (World.cell?_setCell_other _ _ _ _ (fun e => o 2 e.symm)).trans h.p2, (World.cell?_setCell_other _ _ _ _ (fun e => o 3 e.symm)).trans h.p3⟩

/-- What (*model.Map).Do tells and leaves. -/
def MDoIs (w : World) (S : Nat → Prop) (b : Nat) (L : List Pr) (D : Ad) (e : Ending) (w' : World) : Prop :=
  ∃ aa ca, e = .returned (D.val aa ca) ∧ MapAt w' S b L ∧ PRow w' (fun j => j < w.heap.size) (.slice aa D.ps.length ca) D.ps ∧ Only (fun k => k = b) w w'

set_option maxRecDepth 100000 in
set_option maxHeartbeats 6400000 in
theorem mdo_any (b : Nat) (S : Nat → Prop) (L : List Pr) (c k hi v : Int) (w : World) (h : MapAt w S b L) (hS : ∀ j, S j → j < w.heap.size) (hl : L.length ≤ 1150000) :
    Calls Try.prog 88 #[.pointer (some ⟨b, 0, none⟩), .agg #[.int .i64 c, .int .i64 k, .int .i64 hi, .int .i64 v]] w (MDoIs w S b (doP L c k v) (doA L c k hi)) := by
  obtain ⟨ao, cap, k0, f0, hP⟩ := h.prs
  have hbl := h.lt
  have hsb := h.sb
  have e1 : (w.alloc (.cells #[.int .i64 c, .int .i64 k, .int .i64 hi, .int .i64 v] 28)).heap.size = w.heap.size + 1 := by simp
  have e2 : ((w.alloc (.cells #[.int .i64 c, .int .i64 k, .int .i64 hi, .int .i64 v] 28)).alloc (.cells #[.int .i64 0, .bool false, .int .i64 0, .int .i64 0, .int .i64 0, .slice none 0 0] 44)).heap.size = w.heap.size + 1 + 1 := by simp
  obtain ⟨W3, hW3⟩ : ∃ W3, W3 = ((w.alloc (.cells #[.int .i64 c, .int .i64 k, .int .i64 hi, .int .i64 v] 28)).alloc (.cells #[.int .i64 0, .bool false, .int .i64 0, .int .i64 0, .int .i64 0, .slice none 0 0] 44)).alloc (.cells #[.int .i64 0, .bool false, .int .i64 0, .int .i64 0, .int .i64 0, .slice none 0 0] 44) := ⟨_, rfl⟩
  have ba2 : Below (w.alloc (.cells #[.int .i64 c, .int .i64 k, .int .i64 hi, .int .i64 v] 28)).heap.size (w.alloc (.cells #[.int .i64 c, .int .i64 k, .int .i64 hi, .int .i64 v] 28)) W3 := by rw [hW3]; exact ((Below.refl _ _).alloc (Nat.le_refl _) _).alloc (by simp) _
  have ba3 : Below ((w.alloc (.cells #[.int .i64 c, .int .i64 k, .int .i64 hi, .int .i64 v] 28)).alloc (.cells #[.int .i64 0, .bool false, .int .i64 0, .int .i64 0, .int .i64 0, .slice none 0 0] 44)).heap.size ((w.alloc (.cells #[.int .i64 c, .int .i64 k, .int .i64 hi, .int .i64 v] 28)).alloc (.cells #[.int .i64 0, .bool false, .int .i64 0, .int .i64 0, .int .i64 0, .slice none 0 0] 44)) W3 := by rw [hW3]; exact (Below.refl _ _).alloc (Nat.le_refl _) _
  have ba : Below w.heap.size w W3 := ab0 ba3
  have A1 : AC W3 (w.heap.size + 1) 0 false 0 0 0 (.slice none 0 0) := ac_after ba3
  have A2 : AC W3 (w.heap.size + 1 + 1) 0 false 0 0 0 (.slice none 0 0) := by
    rw [hW3]
    have := AC.new ((w.alloc (.cells #[.int .i64 c, .int .i64 k, .int .i64 hi, .int .i64 v] 28)).alloc (.cells #[.int .i64 0, .bool false, .int .i64 0, .int .i64 0, .int .i64 0, .slice none 0 0] 44)) 44
    rw [e2] at this
    exact this
  obtain ⟨p0, p1, p2, p3⟩ := op_after ba3
  have k3 : W3.cell? ⟨b, 0, none⟩ = some (.slice ao L.length cap) := cell_keep k0 ba
  have f3 : W3.frozen? ⟨b, 0, none⟩ = false := frozen_keep f0 hbl ba
  have HP := Lib.hid (hP.below ba)
  have HBA := Lib.hid ba
  have HA1 := Lib.hid A1
  have HA2 := Lib.hid A2
  have HSW := Lib.hid hS
  have hz3 : Hid (W3.heap.size = w.heap.size + 3) := Lib.hid (by rw [hW3]; simp)
  have HBL := Lib.hid hbl
  have HSB := Lib.hid hsb
  have cdo := fun W hw => ldo_any ao cap L c k hi v W hw (Nat.le_trans hl (by decide))
  unfold DoIs Ad.val at cdo
  unfold MDoIs Ad.val
  generalize doA L c k hi = D at cdo ⊢
  generalize doP L c k v = R at cdo ⊢
  obtain ⟨e0, x0, x1, x2, nn, ps⟩ := D
  dsimp only at cdo ⊢
  clear h hP hl hS ba ba2 ba3 A1 A2 e1 e2 k0 f0 hbl hsb
  go_enter Try.func88, Try.ntmps88
  go_wp2_with (fail)
  rw [← hW3]
  clear hW3
  have hO : O4 w.heap.size c k hi v W3 := ⟨p0, p1, p2, p3⟩
  have hn2 : w.heap.size ≠ w.heap.size + 1 + 1 := by omega
  have hb2 : ¬ b = w.heap.size + 1 + 1 := by have := HBL.out; omega
  refine wp_region_held_drew (S := (fun W => O4 w.heap.size c k hi v W)) (by kernel_rfl) (by first | exact hO | exact ⟨p0, p1, p2, p3⟩) (fun hHeld => ?_)
  refine tk 0 ?_ rfl (by kernel_rfl) (fun _ _ _ h => h) ⟨by rfl, ?_⟩ hHeld ?_; rotate_left
  · intro wS hSw; (obtain ⟨s0, s1, s2, s3⟩ := hSw); go_simp; try with_reducible rfl
  refine tk 1 ?_ rfl (by kernel_rfl) (fun _ _ _ h => h) ⟨by rfl, ?_⟩ hHeld ?_; rotate_left
  · intro wS hSw; (obtain ⟨s0, s1, s2, s3⟩ := hSw); go_simp; try with_reducible rfl
  refine tk 2 ?_ rfl (by kernel_rfl) (fun _ _ _ h => h) ⟨by rfl, ?_⟩ hHeld ?_; rotate_left
  · intro wS hSw; (obtain ⟨s0, s1, s2, s3⟩ := hSw); go_simp; try with_reducible rfl
  refine tk 3 ?_ rfl (by kernel_rfl) (fun _ _ _ h => h) ⟨by rfl, ?_⟩ hHeld ?_; rotate_left
  · intro wS hSw; (obtain ⟨s0, s1, s2, s3⟩ := hSw); go_simp; try with_reducible rfl
  refine tk 5 ?_ rfl (by kernel_rfl) (fun _ _ _ h => h) ⟨by rfl, ?_⟩ hHeld ?_; rotate_left
  · intro wS hSw; (obtain ⟨s0, s1, s2, s3⟩ := hSw); go_simp; try with_reducible rfl
  try simp only [List.getElem_toArray, List.getElem_cons_succ, List.getElem_cons_zero, Act.put, List.setIfInBounds_toArray, List.set_cons_zero, List.set_cons_succ]
  refine wpAnyH_ready (rs := [4]) (by kernel_rfl) (by simp) ?_
  refine AllReadyH.cons rfl (fun K hK => ?_) AllReadyH.nil
  go_simp
  refine hK.out _ _ ?_ (fun hNext => ?_)
  · exact hHeld
  clear hK K hHeld
  have hHeld := hNext
  clear hNext
  try simp only [List.getElem_toArray, List.getElem_cons_succ, List.getElem_cons_zero, Act.put, List.setIfInBounds_toArray, List.set_cons_zero, List.set_cons_succ]
  refine wpAnyH_ready (rs := [6]) (by kernel_rfl) (by simp) ?_
  refine AllReadyH.cons rfl (fun K hK => ?_) AllReadyH.nil
  go_simp
  go_at_call 97; ((with_reducible refine (cdo _ (HP.out.below ((Below.refl _ _).drew))).mono ?_); rintro e w6 ⟨a6, cp6, aa, ca, rfl, hR, hT, hb6⟩; have hb6' : Below W3.heap.size W3 w6 := ((Below.refl _ _).drew).trans hb6; have HR := Lib.hid hR; have HT := Lib.hid hT; have HB6 := Lib.hid hb6'; have k6 := cell_keep k3 hb6'; have f6 : w6.frozen? ⟨b, 0, none⟩ = false := frozen_keep f3 (World.block_lt_of_cell? _ _ k3) hb6'; have H61 := Lib.hid (HA1.out.keep hb6'); obtain ⟨z0, z1, z2, z3, z4, z5, g0, g1, g2, g3, g4, g5⟩ := HA2.out.keep hb6'; have H62 := Lib.hid (HA2.out.keep hb6'); clear hR hT hb6 hb6')
  refine hK.out _ _ ?_ (fun hNext => ?_)
  · exact hO.keep HB6.out
  clear hK K hHeld
  have hHeld := hNext
  clear hNext
  try simp only [List.getElem_toArray, List.getElem_cons_succ, List.getElem_cons_zero, Act.put, List.setIfInBounds_toArray, List.set_cons_zero, List.set_cons_succ]
  refine tk 7 ?_ rfl (by kernel_rfl) (fun _ _ _ h => h) ⟨by rfl, ?_⟩ hHeld ?_; rotate_left
  · intro wS hSw; (obtain ⟨s0, s1, s2, s3⟩ := hSw); go_simp; try with_reducible rfl
  refine tk 8 ?_ rfl (by kernel_rfl) (fun _ _ _ h => h) ⟨by rfl, ?_⟩ hHeld ?_; rotate_left
  · intro wS hSw; (obtain ⟨s0, s1, s2, s3⟩ := hSw); go_simp; try with_reducible rfl
  refine tk 9 ?_ rfl (by kernel_rfl) (fun _ _ _ h => h) ⟨by rfl, ?_⟩ hHeld ?_; rotate_left
  · intro wS hSw; (obtain ⟨s0, s1, s2, s3⟩ := hSw); go_simp; try with_reducible rfl
  refine tk 10 ?_ rfl (by kernel_rfl) (fun _ _ _ h => h) ⟨by rfl, ?_⟩ hHeld ?_; rotate_left
  · intro wS hSw; (obtain ⟨s0, s1, s2, s3⟩ := hSw); go_simp; try with_reducible rfl
  refine tk 11 ?_ rfl (by kernel_rfl) (fun _ _ _ h => h) ⟨by rfl, ?_⟩ hHeld ?_; rotate_left
  · intro wS hSw; (obtain ⟨s0, s1, s2, s3⟩ := hSw); go_simp; try with_reducible rfl
  try simp only [List.getElem_toArray, List.getElem_cons_succ, List.getElem_cons_zero, Act.put, List.setIfInBounds_toArray, List.set_cons_zero, List.set_cons_succ]
  refine wpAnyH_ready (rs := [12]) (by kernel_rfl) (by simp) ?_
  refine AllReadyH.cons rfl (fun K hK => ?_) AllReadyH.nil
  go_simp
  refine hK.out _ _ ?_ (fun hNext => ?_)
  · exact (hO.keep HB6.out).set (Nat.ne_of_gt HBL.out) _
  clear hK K hHeld
  have hHeld := hNext
  clear hNext
  try simp only [List.getElem_toArray, List.getElem_cons_succ, List.getElem_cons_zero, Act.put, List.setIfInBounds_toArray, List.set_cons_zero, List.set_cons_succ]
  refine wpAnyH_ready (rs := [13]) (by kernel_rfl) (by simp) ?_
  refine AllReadyH.cons rfl (fun K hK => ?_) AllReadyH.nil
  go_simp
  refine hK.out _ _ ?_ (fun hNext => ?_)
  · exact (((((((hO.keep HB6.out).set (Nat.ne_of_gt HBL.out) _).set hn2 _).set hn2 _).set hn2 _).set hn2 _).set hn2 _).set hn2 _
  clear hK K hHeld
  have hHeld := hNext
  clear hNext
  try simp only [List.getElem_toArray, List.getElem_cons_succ, List.getElem_cons_zero, Act.put, List.setIfInBounds_toArray, List.set_cons_zero, List.set_cons_succ]
  refine wpAnyH_done (by kernel_rfl) ?_ _
  have a62 : AC (w6.setCell ⟨b, 0, none⟩ (.slice a6 R.length cp6)) (w.heap.size + 1 + 1) 0 false 0 0 0 (.slice none 0 0) := H62.out.only (only_one b 0 _) (fun e => hb2 e.symm)
  have o7 : Only (fun k => k = b) w6 (w6.setCell ⟨b, 0, none⟩ (.slice a6 R.length cp6)) := only_one b 0 _
  have a71 := H61.out.only o7 (show ¬ (w.heap.size + 1 = b) from fun e => by have := HBL.out; omega)
  have k7 : (w6.setCell ⟨b, 0, none⟩ (.slice a6 R.length cp6)).cell? ⟨b, 0, none⟩ = some (.slice a6 R.length cp6) := World.cell?_setCell_same _ _ _ k6
  have f7 : (w6.setCell ⟨b, 0, none⟩ (.slice a6 R.length cp6)).frozen? ⟨b, 0, none⟩ = false := by rw [World.frozen?_setCell]; exact f6
  generalize w6.setCell ⟨b, 0, none⟩ (.slice a6 R.length cp6) = W7 at *
  obtain ⟨W8, hW8, a82, b82⟩ := a62.put e0 x0 x1 x2 nn (.slice aa ps.length ca)
  have o8 := putO hW8
  rw [← hW8]
  clear hW8
  have a81 := a71.only o8 (show ¬ (w.heap.size + 1 = w.heap.size + 1 + 1) from by omega)
  have k8 := o8.cell k7 hb2
  have f8 : W8.frozen? ⟨b, 0, none⟩ = false := (World.frozen?_of_block (a := ⟨b, 0, none⟩) (o8.block b (World.block_lt_of_cell? _ _ k7) hb2)).trans f7
  have HA8 := Lib.hid a81
  have HO7 := Lib.hid o7
  have HO8 := Lib.hid o8
  have HK8 := Lib.hid (And.intro k8 f8)
  obtain ⟨y0, y1, y2, y3, y4, y5, m0, m1, m2, m3, m4, m5⟩ := a81
  obtain ⟨z0', z1', z2', z3', z4', z5', -, -, -, -, -, -⟩ := a82
  clear o7 o8 k7 f7 k8 f8 a71 a62 b82 k6 f6 z0 z1 z2 z3 z4 z5 g0 g1 g2 g3 g4 g5 p0 p1 p2 p3 k3 f3 hO hn2 hHeld
  go_wp2_with (fail)
  obtain ⟨W9, hW9, r, rb⟩ := HA8.out.put e0 x0 x1 x2 nn (.slice aa ps.length ca)
  have o9 := putO hW9
  rw [← hW9]
  obtain ⟨r0, r1, r2, r3, r4, r5, -, -, -, -, -, -⟩ := r
  refine bodyPost_ret (v := .agg #[.int .i64 e0, .bool x0, .int .i64 x1, .int .i64 x2, .int .i64 nn, .slice aa ps.length ca]) (by simp [results, Try.results88, go_sem, r0, r1, r2, r3, r4, r5]) rfl ?_
  have hz := hz3.out
  have hbl := HBL.out
  have hb1 : ¬ (b = w.heap.size + 1) := by omega
  have hd : W3.drew.heap.size = W3.heap.size := rfl
  have ho : Only (fun k => k = b) w W9 := ((((Only.ofBelow (S := fun k => k = b) HBA.out).trans (Only.ofBelow HB6.out) (T := fun k => k = b) (fun k hk _ => hk)).trans HO7.out (fun k hk _ => hk)).trans HO8.out (fun k hk hlt => by omega)).trans o9 (fun k hk hlt => by omega)
  have k9 := o9.cell HK8.out.1 hb1
  have f9 : W9.frozen? ⟨b, 0, none⟩ = false := (World.frozen?_of_block (a := ⟨b, 0, none⟩) (o9.block b (World.block_lt_of_cell? _ _ HK8.out.1) hb1)).trans HK8.out.2
  have rowk : ∀ {v : Value} {l : List Pr}, PRow w6 (fun j => j < W3.drew.heap.size) v l → PRow W9 (fun j => j < w.heap.size) v l := fun {v l} hr =>
    ⟨o9.row (HO8.out.row (HO7.out.row hr.row (fun k hk e => hr.av k hk (by rw [hd]; omega))) (fun k hk e => hr.av k hk (by rw [hd]; omega))) (fun k hk e => hr.av k hk (by rw [hd]; omega)), fun k hk hl => hr.av k hk (by rw [hd]; omega)⟩
  exact ⟨aa, ca, rfl, ⟨HSB.out, World.block_lt_of_cell? _ _ k9, a6, cp6, k9, f9, (rowk HR.out).sub (fun k _ hk => HSW.out k hk)⟩, rowk HT.out, ho⟩
end Go.Proofs.Ytijepfabkalcoaa

namespace Go.Proofs.Ytijepfabkalcoaa
open Go.RowKit Go.Sort
set_option linter.all false
set_option maxRecDepth 20000

/-- The pairs after operations, one after the other; what each told. -/
def runP : List Pr → List OpD → List Pr
  | L, [] => L
  | L, o :: z => runP (doP L o.c o.k o.v) z
def runA : List Pr → List OpD → List Ad
  | _, [] => []
  | L, o :: z => doA L o.c o.k o.h :: runA (doP L o.c o.k o.v) z
theorem runP_app : ∀ (L : List Pr) (y z : List OpD), runP L (y ++ z) = runP (runP L y) z
  | _, [], _ => rfl
  | L, o :: y, z => runP_app _ y z
theorem runA_app : ∀ (L : List Pr) (y z : List OpD), runA L (y ++ z) = runA L y ++ runA (runP L y) z
  | _, [], _ => rfl
  | L, o :: y, z => congrArg (doA L o.c o.k o.h :: ·) (runA_app _ y z)
theorem runA_len : ∀ (L : List Pr) (z : List OpD), (runA L z).length = z.length
  | _, [] => rfl
  | L, o :: z => by show (runA _ z).length + 1 = z.length + 1; rw [runA_len _ z]
theorem doP_le (L : List Pr) (c k v : Int) : (doP L c k v).length ≤ L.length + 1 := by
  by_cases h : Srt L ∧ okOp c
  · exact doP_len h.1 h.2 k v
  · rw [doP_bad h]; omega
theorem runP_le : ∀ (L : List Pr) (z : List OpD), (runP L z).length ≤ L.length + z.length
  | _, [] => Nat.le_refl _
  | L, o :: z => by
    have h1 := runP_le (doP L o.c o.k o.v) z
    have h2 := doP_le L o.c o.k o.v
    show (runP _ z).length ≤ _
    simp only [List.length_cons]
    omega
theorem Ops.only {w w' : World} {T : Nat → Prop} {a : Option Addr} {cap : Nat} {l : List OpD} (h : Ops w a cap l) (o : Only T w w') (ha : ∀ ad, a = some ad → ¬ T ad.block) : Ops w' a cap l :=
  ⟨h.1, h.2.1, fun n q hq => by
    obtain ⟨b, of, rfl, h0, h1, h2, h3⟩ := h.2.2.1 n q hq
    have hb := ha _ rfl
    exact ⟨b, of, rfl, o.cell h0 hb, o.cell h1 hb, o.cell h2 hb, o.cell h3 hb⟩, h.2.2.2⟩

theorem infoAns : (Try.prog.info? 44).map (fun i => (i.zero, i.size, i.bytes)) = some (some (.agg #[.int .i64 0, .bool false, .int .i64 0, .int .i64 0, .int .i64 0, .slice none 0 0]), 6, 64) := by kernel_rfl
/-- So many empty answers. -/
def mkA (n : Nat) : Array Value := madeCells (Value.agg #[.int .i64 0, .bool false, .int .i64 0, .int .i64 0, .int .i64 0, .slice none 0 0]).cells (n * 6)
theorem mkA_run (n : Nat) (h : n ≤ 2000) (w : World) : (Instr.makeSlice 81 (.int .i64 (n : Int)) (.int .i64 (n : Int))).run Try.prog w = .ok (.slice (some ⟨w.heap.size, 0, none⟩) n n) (w.alloc (.cells (mkA n) 44)) := by
  obtain ⟨i, hi, hz, hs1, hs2⟩ := info_parts infoAns
  have hr := run_make (P := Try.prog) w 81 44 i _ Try.underlying81 hi hz .i64 .i64 n n (by omega) (Int.le_refl _) (by rw [hs2]; omega) (by omega)
  rw [hs1] at hr
  simpa [mkA] using hr
attribute [local go_sem] mkA_run

/-- Answers in a row of one's own in block g. -/
structure TR (w : World) (S : Nat → Prop) (g n : Nat) (Ds : List Ad) : Prop where
  ex : ∃ xs, w.ownsRow 0 44 6 (.slice (some ⟨g, 0, none⟩) n n) n xs ∧ ∀ i D, Ds[i]? = some D → ∃ aa ca, xs[i * 6]? = some (.int .i64 D.err) ∧ xs[i * 6 + 1]? = some (.bool D.ok) ∧ xs[i * 6 + 2]? = some (.int .i64 D.k) ∧ xs[i * 6 + 3]? = some (.int .i64 D.v) ∧ xs[i * 6 + 4]? = some (.int .i64 D.n) ∧ xs[i * 6 + 5]? = some (.slice aa D.ps.length ca) ∧ PRow w S (.slice aa D.ps.length ca) D.ps
theorem TR.made (w : World) (S : Nat → Prop) (n : Nat) (hn : n ≤ 2000) : TR (w.alloc (.cells (mkA n) 44)) S w.heap.size n [] :=
  ⟨_, World.ownsRow_lit (base := 0) (e := 44) (size := 6) w (mkA n) n (Nat.zero_le _) (by unfold maxLen; omega) (by simp [mkA, madeCells]), fun i D h => by simp at h⟩
theorem TR.only {w w' : World} {S T : Nat → Prop} {g n : Nat} {Ds : List Ad} (h : TR w S g n Ds) (o : Only T w w') (hg : ¬ T g) (hT : ∀ k, T k → S k) : TR w' S g n Ds := by
  obtain ⟨xs, h1, h2⟩ := h.ex
  refine ⟨xs, o.row h1 (fun k hk => by simp [Value.ownBlock] at hk; subst hk; exact hg), fun i D hi => ?_⟩
  obtain ⟨aa, ca, c0, c1, c2, c3, c4, c5, hr⟩ := h2 i D hi
  exact ⟨aa, ca, c0, c1, c2, c3, c4, c5, o.row hr.row (fun k hk ht => hr.av k hk (hT k ht)), hr.av⟩
theorem TR.below {w w' : World} {S : Nat → Prop} {g n : Nat} {Ds : List Ad} (h : TR w S g n Ds) (hb : Below w.heap.size w w') : TR w' S g n Ds := by
  obtain ⟨xs, h1, h2⟩ := h.ex
  have o : Only (fun _ => False) w w' := Only.ofBelow hb
  exact h.only o (fun f => f) (fun k f => f.elim)
theorem TR.lt {w : World} {S : Nat → Prop} {g n : Nat} {Ds : List Ad} (h : TR w S g n Ds) : g < w.heap.size := by
  obtain ⟨xs, h1, h2⟩ := h.ex
  exact (h1.lt g rfl).2
theorem TR.sub {w : World} {S S' : Nat → Prop} {g n : Nat} {Ds : List Ad} (h : TR w S g n Ds) (hS : ∀ k, k < w.heap.size → S' k → S k) : TR w S' g n Ds := by
  obtain ⟨xs, h1, h2⟩ := h.ex
  exact ⟨xs, h1, fun i D hi => by
    obtain ⟨aa, ca, c0, c1, c2, c3, c4, c5, hr⟩ := h2 i D hi
    exact ⟨aa, ca, c0, c1, c2, c3, c4, c5, hr.sub hS⟩⟩
/-- An answer as it lies at a place. -/
structure AnsAt (w : World) (S : Nat → Prop) (g o : Nat) (D : Ad) (aa : Option Addr) (ca : Nat) : Prop where
  c0 : w.cell? ⟨g, o, none⟩ = some (.int .i64 D.err)
  c1 : w.cell? ⟨g, o + 1, none⟩ = some (.bool D.ok)
  c2 : w.cell? ⟨g, o + 2, none⟩ = some (.int .i64 D.k)
  c3 : w.cell? ⟨g, o + 3, none⟩ = some (.int .i64 D.v)
  c4 : w.cell? ⟨g, o + 4, none⟩ = some (.int .i64 D.n)
  c5 : w.cell? ⟨g, o + 5, none⟩ = some (.slice aa D.ps.length ca)
  row : PRow w S (.slice aa D.ps.length ca) D.ps
theorem TR.at_ {w : World} {S : Nat → Prop} {g n : Nat} {Ds : List Ad} (h : TR w S g n Ds) (i : Nat) (D : Ad) (hD : Ds[i]? = some D) (hi : i < n) : ∃ aa ca, AnsAt w S g (i * 6) D aa ca := by
  obtain ⟨xs, h1, h2⟩ := h.ex
  obtain ⟨aa, ca, c0, c1, c2, c3, c4, c5, hr⟩ := h2 i D hD
  exact ⟨aa, ca, (h1.cellAt _ (by omega)).trans c0, (h1.cellAt _ (by omega)).trans c1, (h1.cellAt _ (by omega)).trans c2, (h1.cellAt _ (by omega)).trans c3, (h1.cellAt _ (by omega)).trans c4, (h1.cellAt _ (by omega)).trans c5, hr⟩
theorem TR.cell {w : World} {S : Nat → Prop} {g n : Nat} {Ds : List Ad} (h : TR w S g n Ds) (i : Nat) (hi : i < n * 6) : (∃ u, w.cell? ⟨g, i, none⟩ = some u) ∧ w.frozen? ⟨g, i, none⟩ = false := by
  obtain ⟨xs, h1, h2⟩ := h.ex
  exact ⟨⟨_, (h1.cellAt _ hi).trans (List.getElem?_eq_getElem (by rw [h1.1]; exact hi))⟩, h1.frozenAt _⟩
/-- One more answer is written. -/
theorem TR.put {w : World} {S : Nat → Prop} {g n : Nat} {Ds : List Ad} (h : TR w S g n Ds) (hg : S g) (D : Ad) (aa : Option Addr) (ca : Nat) (hr : PRow w S (.slice aa D.ps.length ca) D.ps) (hn : Ds.length < n) (i : Nat) (hi : i = Ds.length) :
    TR ((((((w.setCell ⟨g, i * 6, none⟩ (.int .i64 D.err)).setCell ⟨g, i * 6 + 1, none⟩ (.bool D.ok)).setCell ⟨g, i * 6 + 2, none⟩ (.int .i64 D.k)).setCell ⟨g, i * 6 + 3, none⟩ (.int .i64 D.v)).setCell ⟨g, i * 6 + 4, none⟩ (.int .i64 D.n)).setCell ⟨g, i * 6 + 5, none⟩ (.slice aa D.ps.length ca)) S g n (Ds ++ [D]) ∧
    Only (fun k => k = g) w ((((((w.setCell ⟨g, i * 6, none⟩ (.int .i64 D.err)).setCell ⟨g, i * 6 + 1, none⟩ (.bool D.ok)).setCell ⟨g, i * 6 + 2, none⟩ (.int .i64 D.k)).setCell ⟨g, i * 6 + 3, none⟩ (.int .i64 D.v)).setCell ⟨g, i * 6 + 4, none⟩ (.int .i64 D.n)).setCell ⟨g, i * 6 + 5, none⟩ (.slice aa D.ps.length ca)) := by
  subst hi
  obtain ⟨xs, h1, h2⟩ := h.ex
  have o : Only (fun k => k = g) w ((((((w.setCell ⟨g, Ds.length * 6, none⟩ (.int .i64 D.err)).setCell ⟨g, Ds.length * 6 + 1, none⟩ (.bool D.ok)).setCell ⟨g, Ds.length * 6 + 2, none⟩ (.int .i64 D.k)).setCell ⟨g, Ds.length * 6 + 3, none⟩ (.int .i64 D.v)).setCell ⟨g, Ds.length * 6 + 4, none⟩ (.int .i64 D.n)).setCell ⟨g, Ds.length * 6 + 5, none⟩ (.slice aa D.ps.length ca)) := by
    have s : ∀ {W2 : World} (k : Nat) (u : Value), Only (fun j => j = g) w W2 → Only (fun j => j = g) w (W2.setCell ⟨g, k, none⟩ u) := fun k u h => h.setCell (.inl rfl) u
    exact s _ _ (s _ _ (s _ _ (s _ _ (s _ _ (s _ _ (Only.refl _ _))))))
  refine ⟨⟨_, ((((((h1.stored _ _).1.stored _ _).1.stored _ _).1.stored _ _).1.stored _ _).1.stored _ _).1, fun i E hE => ?_⟩, o⟩
  have hx := h1.1
  by_cases hlt : i < Ds.length
  · rw [List.getElem?_append_left hlt] at hE
    obtain ⟨ab, cb, c0, c1, c2, c3, c4, c5, hq⟩ := h2 i E hE
    have k : ∀ j, j < 6 → ((((((xs.set (Ds.length * 6) (.int .i64 D.err)).set (Ds.length * 6 + 1) (.bool D.ok)).set (Ds.length * 6 + 2) (.int .i64 D.k)).set (Ds.length * 6 + 3) (.int .i64 D.v)).set (Ds.length * 6 + 4) (.int .i64 D.n)).set (Ds.length * 6 + 5) (.slice aa D.ps.length ca))[i * 6 + j]? = xs[i * 6 + j]? := fun j hj => by
      rw [List.getElem?_set_ne (by omega), List.getElem?_set_ne (by omega), List.getElem?_set_ne (by omega), List.getElem?_set_ne (by omega), List.getElem?_set_ne (by omega), List.getElem?_set_ne (by omega)]
    exact ⟨ab, cb, (k 0 (by omega)).trans c0, (k 1 (by omega)).trans c1, (k 2 (by omega)).trans c2, (k 3 (by omega)).trans c3, (k 4 (by omega)).trans c4, (k 5 (by omega)).trans c5, o.row hq.row (fun k hk e => hq.av k hk (e ▸ hg)), hq.av⟩
  · have hi : i = Ds.length := by
      have := (List.getElem?_eq_some_iff.1 hE).1
      rw [List.length_append, List.length_singleton] at this
      omega
    subst hi
    rw [List.getElem?_append_right (Nat.le_refl _), Nat.sub_self] at hE
    cases hE
    refine ⟨aa, ca, ?_, ?_, ?_, ?_, ?_, ?_, o.row hr.row (fun k hk e => hr.av k hk (e ▸ hg)), hr.av⟩
    · rw [List.getElem?_set_ne (by omega), List.getElem?_set_ne (by omega), List.getElem?_set_ne (by omega), List.getElem?_set_ne (by omega), List.getElem?_set_ne (by omega), List.getElem?_set_self (by omega)]
    · rw [List.getElem?_set_ne (by omega), List.getElem?_set_ne (by omega), List.getElem?_set_ne (by omega), List.getElem?_set_ne (by omega), List.getElem?_set_self (by simp only [List.length_set]; omega)]
    · rw [List.getElem?_set_ne (by omega), List.getElem?_set_ne (by omega), List.getElem?_set_ne (by omega), List.getElem?_set_self (by simp only [List.length_set]; omega)]
    · rw [List.getElem?_set_ne (by omega), List.getElem?_set_ne (by omega), List.getElem?_set_self (by simp only [List.length_set]; omega)]
    · rw [List.getElem?_set_ne (by omega), List.getElem?_set_self (by simp only [List.length_set]; omega)]
    · rw [List.getElem?_set_self (by simp only [List.length_set]; omega)]

/-- What (*model.Map).Run tells and leaves. -/
def RunIs (w : World) (S : Nat → Prop) (b : Nat) (L : List Pr) (zs : List OpD) (e : Ending) (w' : World) : Prop :=
  e = .returned (.slice (some ⟨w.heap.size, 0, none⟩) zs.length zs.length) ∧ TR w' (fun j => j < w.heap.size ∨ j = w.heap.size) w.heap.size zs.length (runA L zs) ∧ MapAt w' S b (runP L zs) ∧ Only (fun k => k = b) w w'

set_option maxRecDepth 100000 in
set_option maxHeartbeats 6400000 in
theorem mrun_any (b : Nat) (S : Nat → Prop) (L : List Pr) (a : Option Addr) (cap : Nat) (zs : List OpD) (w : World) (h : MapAt w S b L) (hS : ∀ j, S j → j < w.heap.size) (hz : Ops w a cap zs) (hne : ∀ ad, a = some ad → ¬ ad.block = b) (hl : L.length + zs.length ≤ 1150000) (hn : zs.length ≤ 2000) :
    Calls Try.prog 75 #[.pointer (some ⟨b, 0, none⟩), .slice a zs.length cap] w (RunIs w S b L zs) := by
  have hbl := h.lt
  have o1 : Only (fun k => k = b) w (w.alloc (.cells (mkA zs.length) 44)) := (Only.refl _ _).alloc _
  have HT := Lib.hid (TR.made w (fun j => j < w.heap.size ∨ j = w.heap.size) zs.length hn)
  have HM := Lib.hid ((h.sub (S' := fun j => S j ∨ j = w.heap.size) (.inl h.sb) (fun k hk hs => hs.elim id (fun e => by omega))).below ((Below.refl _ _).alloc (Nat.le_refl _) (.cells (mkA zs.length) 44)))
  have HSB := Lib.hid h.sb
  have HO := Lib.hid o1
  have HZ := Lib.hid hz
  have HNE := Lib.hid hne
  have HS := Lib.hid hS
  have HB := Lib.hid hbl
  have HL := Lib.hid hl
  have hcz := hz.1
  have hcz2 := hz.2.1
  unfold maxLen at hcz2
  clear h hz hne hS hbl hl o1
  unfold RunIs
  go_enter Try.func75, Try.ntmps75
  go_wp2_with (fail)
  generalize w.alloc (.cells (mkA zs.length) 44) = W1 at HT HM HO ⊢
  go_loopw [15] (fun x wr => ∃ i : Nat, x = .int .i64 i ∧ i ≤ zs.length ∧ TR wr (fun j => j < w.heap.size ∨ j = w.heap.size) w.heap.size zs.length (runA L (zs.take i)) ∧ MapAt wr (fun j => S j ∨ j = w.heap.size) b (runP L (zs.take i)) ∧ Only (fun k => k = b) w wr) (fun x _ => zs.length - (intOf x).toNat)
  case atStart => exact ⟨0, rfl, Nat.zero_le _, HT.out, HM.out, HO.out⟩
  case round =>
    clear HT HM HO
    obtain ⟨i, rfl, hin, hT, hM, hO⟩ := hrel
    have HT := Lib.hid hT
    have HM := Lib.hid hM
    have HO := Lib.hid hO
    by_cases hlt : i < zs.length
    · have hltI : (i : Int) < (zs.length : Int) := by omega
      have hi0 : (0 : Int) ≤ (i : Int) := by omega
      obtain ⟨q, hq⟩ : ∃ q, zs[i]? = some q := ⟨_, List.getElem?_eq_getElem hlt⟩
      obtain ⟨ob, oo, rfl, q0, q1, q2, q3⟩ := (HZ.out.only hO HNE.out).2.2.1 i q hq
      have htk : zs.take (i + 1) = zs.take i ++ [q] := by rw [List.take_add_one, hq]; rfl
      have HP : Hid (runP L (zs.take (i + 1)) = doP (runP L (zs.take i)) q.c q.k q.v) := Lib.hid (by rw [htk, runP_app]; rfl)
      have HA : Hid (runA L (zs.take (i + 1)) = runA L (zs.take i) ++ [doA (runP L (zs.take i)) q.c q.k q.h]) := Lib.hid (by rw [htk, runA_app]; rfl)
      have hlen : (runP L (zs.take i)).length ≤ 1150000 := by
        have h1 := runP_le L (zs.take i)
        have h2 := HL.out
        rw [List.length_take] at h1
        omega
      have ba : Below wr.heap.size wr (wr.alloc (.cells #[.int .i64 q.c, .int .i64 q.k, .int .i64 q.h, .int .i64 q.v] 28)) := (Below.refl _ _).alloc (Nat.le_refl _) _
      have HBA := Lib.hid ba
      have cd := mdo_any b (fun j => S j ∨ j = w.heap.size) (runP L (zs.take i)) q.c q.k q.h q.v _ (hM.below ba) (fun j hj => by have h1 := hO.size; have h2 := ba.size; have h3 := hT.lt; exact hj.elim (fun hj => by have h4 := HS.out j hj; omega) (fun hj => by omega)) hlen
      have p0 : (wr.alloc (.cells #[.int .i64 q.c, .int .i64 q.k, .int .i64 q.h, .int .i64 q.v] 28)).cell? ⟨wr.heap.size, 0, none⟩ = some (.int .i64 q.c) := by simp
      unfold MDoIs Ad.val at cd
      have HDL : Hid ((runA L (zs.take i)).length = i) := Lib.hid (by rw [runA_len, List.length_take]; omega)
      generalize doA (runP L (zs.take i)) q.c q.k q.h = D at cd HA
      generalize doP (runP L (zs.take i)) q.c q.k q.v = R at cd HP
      clear hT hM hO hq htk hlen ba
      go_wp2_with (go_at_call 88; ((with_reducible refine cd.mono ?_); clear cd; rintro e w2 ⟨aa, ca, rfl, hM2, hR2, hO2⟩; have HM2 := Lib.hid hM2; have HR2 := Lib.hid hR2; have HO2 := Lib.hid hO2; have HT2 := Lib.hid (((HT.out.below HBA.out)).only hO2 (fun e => (by have := HB.out; omega)) (fun k hk => .inl (by rw [hk]; exact HB.out))); obtain ⟨⟨u0, y0⟩, m0⟩ := HT2.out.cell (i * 6) (by omega); obtain ⟨⟨u1, y1⟩, m1⟩ := HT2.out.cell (i * 6 + 1) (by omega); obtain ⟨⟨u2, y2⟩, m2⟩ := HT2.out.cell (i * 6 + 2) (by omega); obtain ⟨⟨u3, y3⟩, m3⟩ := HT2.out.cell (i * 6 + 3) (by omega); obtain ⟨⟨u4, y4⟩, m4⟩ := HT2.out.cell (i * 6 + 4) (by omega); obtain ⟨⟨u5, y5⟩, m5⟩ := HT2.out.cell (i * 6 + 5) (by omega); clear hM2 hR2 hO2))
      have hrr : PRow w2 (fun j => j < w.heap.size ∨ j = w.heap.size) (.slice aa D.ps.length ca) D.ps := HR2.out.sub (fun k _ hk => by have h1 := HO.out.size; have h2 := HT.out.lt; have h3 := HBA.out.size; rcases hk with hk | hk <;> omega)
      obtain ⟨t1, t2⟩ := HT2.out.put (.inr rfl) D aa ca hrr (by rw [HDL.out]; exact hlt) i HDL.out.symm
      rw [← HA.out] at t1
      have HT3 := Lib.hid t1
      have HO3 := Lib.hid t2
      have HM3 := Lib.hid (HM2.out.only t2 (fun e => (by have := HB.out; omega)) (fun k hk => .inr hk))
      clear t1 t2 hrr
      go_roundw
      case rel => exact ⟨i + 1, by go_num, hlt, HT3.out, by rw [HP.out]; exact HM3.out, ((HO.out.trans (Only.ofBelow (S := fun k => k = b) HBA.out) (fun k hk _ => hk)).trans HO2.out (fun k hk _ => hk)).trans HO3.out (fun k hk hlt => by omega)⟩
      case measure => simp [intOf]; omega
    · obtain rfl : i = zs.length := by omega
      have hltI : ¬ (zs.length : Int) < (zs.length : Int) := by omega
      rw [List.take_of_length_le (Nat.le_refl _)] at HT HM
      go_wp2_with (fail)
      go_ret
      exact ⟨rfl, HT.out, HM.out.sub HSB.out (fun k _ hk => .inl hk), HO.out⟩
end Go.Proofs.Ytijepfabkalcoaa

namespace Go.Proofs.Ytijepfabkalcoaa
open Go.RowKit Go.Sort Go.Deep Go.ChangeShapes Go.WideShapes
set_option linter.all false
set_option maxRecDepth 20000

section
variable {H : Type} {enc : TypeId × Value → H} {w : World} {fuel : Nat} {x : DataW H × List MemPlace}
end
attribute [local go_sem] mkA_run
set_option maxRecDepth 100000 in
/-- No operations at all. -/
theorem mrun_none (b : Nat) (S : Nat → Prop) (L : List Pr) (a : Option Addr) (cap : Nat) (w : World) (h : MapAt w S b L) :
    Calls Try.prog 75 #[.pointer (some ⟨b, 0, none⟩), .slice a 0 cap] w (RunIs w S b L []) := by
  have HT := Lib.hid (TR.made w (fun j => j < w.heap.size ∨ j = w.heap.size) 0 (by omega))
  have HM := Lib.hid (h.below ((Below.refl _ _).alloc (Nat.le_refl _) (.cells (mkA 0) 44)))
  have HO : Hid (Only (fun k => k = b) w (w.alloc (.cells (mkA 0) 44))) := Lib.hid ((Only.refl _ _).alloc _)
  have mk := fun W => mkA_run 0 (by omega) W
  rw [show ((0 : Nat) : Int) = 0 from rfl] at mk
  clear h
  unfold RunIs
  go_enter Try.func75, Try.ntmps75
  go_wp2_with (fail)
  refine wp_loop_rounds 1 ?_
  rw [rounds_succ]
  go_wp2_with (fail)
  go_ret
  exact ⟨rfl, HT.out, HM.out, HO.out⟩
theorem mrun_all (b : Nat) (S : Nat → Prop) (L : List Pr) (a : Option Addr) (cap : Nat) (zs : List OpD) (w : World) (h : MapAt w S b L) (hS : ∀ j, S j → j < w.heap.size) (hz : Ops w a cap zs) (hne : ∀ (n : Nat) (q : OpD), zs[n]? = some q → ∀ ad, a = some ad → ¬ ad.block = b) (hl : L.length + zs.length ≤ 1150000) (hn : zs.length ≤ 2000) :
    Calls Try.prog 75 #[.pointer (some ⟨b, 0, none⟩), .slice a zs.length cap] w (RunIs w S b L zs) := by
  cases zs with
  | nil => exact mrun_none b S L a cap w h
  | cons q zs => exact mrun_any b S L a cap (q :: zs) w h hS hz (hne 0 q rfl) hl hn
theorem putsL_self {L : List Pr} (h : Srt L) : putsL L = L :=
  srt_find (putsL_srt L) h (fun k => by
    rw [putsL_find]
    have h1 := find_srt h k
    cases e : L.reverse.find? (fun z => z.1 == k) with
    | none =>
      symm
      rw [List.find?_eq_none] at e ⊢
      exact fun x hx => e x (by simpa using hx)
    | some z =>
      symm
      rw [h1]
      have hm := List.mem_of_find?_eq_some e
      have hk := List.find?_some e
      exact ⟨by simpa using hm, by simpa using hk⟩)
end Go.Proofs.Ytijepfabkalcoaa
