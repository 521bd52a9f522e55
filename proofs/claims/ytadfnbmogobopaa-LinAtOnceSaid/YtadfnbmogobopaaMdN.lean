/- model.New: one map of pairs, the later one where a key stands twice. No condition: lemmas. -/
import Derived.Test.YtadfnbmogobopaaMdF
import Derived.Test.YtadfnbmogobopaaMdH
namespace Go.Proofs.Ytadfnbmogobopaa
open Go.RowKit Go.Sort
set_option linter.all false
set_option maxRecDepth 20000

/-! ### Nothing to sort -/
theorem rev_zero (ao : Option Addr) (cap : Nat) (w : World) : Calls Try.prog 37 #[.slice ao 0 cap] w fun e w' => e = .returned (.tuple #[]) ∧ w' = w := by
  go_enter Try.func37, Try.ntmps37
  go_wp2_with (fail)
  refine wp_loop_rounds 1 ?_
  rw [rounds_succ]
  go_wp2_with (fail)
  go_end0
  exact ⟨rfl, rfl⟩
theorem inss_zero (ao : Option Addr) (cap : Nat) (fv : Value) (w : World) : Calls Try.prog 66 #[.slice ao 0 cap, .int .i64 0, .int .i64 0, fv] w fun e w' => e = .returned (.tuple #[]) ∧ w' = w := by
  go_enter Try.func66, Try.ntmps66
  go_wp2_with (fail)
  refine wp_loop_rounds 1 ?_
  rw [rounds_succ]
  go_wp2_with (fail)
  go_end0
  exact ⟨rfl, rfl⟩
theorem stable_zero (ao : Option Addr) (cap : Nat) (fv : Value) (w : World) : Calls Try.prog 52 #[.slice ao 0 cap, .int .i64 0, fv] w fun e w' => e = .returned (.tuple #[]) ∧ w' = w := by
  have c := fun W => inss_zero ao cap fv W
  go_enter Try.func52, Try.ntmps52
  go_wp2_with (fail)
  refine wp_loop_rounds 1 ?_
  rw [rounds_succ]
  go_wp2_with (go_at_call 66; ((with_reducible refine (c _).mono ?_); rintro e w' ⟨rfl, rfl⟩))
  refine wp_loop_rounds 1 ?_
  rw [rounds_succ]
  go_wp2_with (fail)
  go_end0
  exact ⟨rfl, rfl⟩
theorem sort_zero (ao : Option Addr) (cap : Nat) (fv : Value) (w : World) : Calls Try.prog 38 #[.slice ao 0 cap, fv] w fun e w' => e = .returned (.tuple #[]) ∧ w' = w := by
  have c := fun W => stable_zero ao cap fv W
  go_enter Try.func38, Try.ntmps38
  go_wp2_with (go_at_call 52; ((with_reducible refine (c _).mono ?_); rintro e w' ⟨rfl, rfl⟩))
  go_end0
  exact ⟨rfl, rfl⟩
theorem compact_less (ao : Option Addr) (n cap : Nat) (fv : Value) (h : n < 2) (w : World) : Calls Try.prog 41 #[.slice ao n cap, fv] w fun e w' => e = .returned (.slice ao n cap) ∧ w' = w := by
  have h' : (n : Int) < 2 := by omega
  go_enter Try.func41, Try.ntmps41
  go_wp2_with (fail)
  go_ret
  exact ⟨rfl, rfl⟩
theorem ded_less {l : List Pr} {n : Nat} (hn : l.length = n) (h : n < 2) : ded l n = l := by
  rw [ded_all n (by omega) (fun i x y h1 h2 => by omega), List.take_of_length_le (by omega)]
theorem compact_any (g cap n : Nat) (l : List Pr) (S : Nat → Prop) (w : World) (h : PRow w S (.slice (some ⟨g, 0, none⟩) n cap) l) (hn : l.length = n) (hl : n ≤ 10000000) :
    Calls Try.prog 41 #[.slice (some ⟨g, 0, none⟩) n cap, .func (.func 42) #[] #[]] w (CmpIs w S g cap (ded l n)) := by
  by_cases h2 : n < 2
  · refine (compact_less _ n cap _ h2 w).mono ?_
    rintro e w' ⟨rfl, rfl⟩
    rw [ded_less hn h2]
    unfold CmpIs
    rw [hn]
    exact ⟨rfl, h, Only.refl _ _⟩
  · exact compact_two g cap n l S w h hn hl (by omega)

/-! ### What a map of pairs has -/
/-- The pairs put one behind the other. -/
def putsL (l : List Pr) : List Pr := l.foldl (fun acc z => withL acc z.1 z.2) []
theorem withL_inn {l : List Pr} (h : Srt l) (k v : Int) (z : Pr) : z ∈ withL l k v ↔ z = (k, v) ∨ (z ∈ l ∧ z.1 ≠ k) := by
  rw [withL_srt l k v h]
  simp only [List.mem_append, List.mem_filter, List.mem_singleton, decide_eq_true_iff]
  constructor
  · rintro ((⟨h1, h2⟩ | h1) | ⟨h1, h2⟩)
    · exact .inr ⟨h1, by omega⟩
    · exact .inl h1
    · exact .inr ⟨h1, by omega⟩
  · rintro (h1 | ⟨h1, h2⟩)
    · exact .inl (.inr h1)
    · by_cases h3 : z.1 < k
      · exact .inl (.inl ⟨h1, h3⟩)
      · exact .inr ⟨h1, by omega⟩
theorem putsL_snoc (l : List Pr) (z : Pr) : putsL (l ++ [z]) = withL (putsL l) z.1 z.2 := by unfold putsL; rw [List.foldl_append]; rfl
theorem rev_ind {P : List Pr → Prop} (h0 : P []) (h1 : ∀ l z, P l → P (l ++ [z])) : ∀ l, P l := by
  intro l
  have : ∀ n (l : List Pr), l.length = n → P l := by
    intro n
    induction n with
    | zero => intro l hl; rw [List.eq_nil_of_length_eq_zero hl]; exact h0
    | succ n ih =>
      intro l hl
      have hne : l ≠ [] := by rintro rfl; simp at hl
      rw [← List.dropLast_concat_getLast hne]
      exact h1 _ _ (ih _ (by rw [List.length_dropLast]; omega))
  exact this _ l rfl
theorem putsL_srt : ∀ l : List Pr, Srt (putsL l) := rev_ind Srt.nil (fun l z h => by rw [putsL_snoc]; exact withL_is_srt _ _ _ h)
theorem putsL_find : ∀ (l : List Pr) (k : Int), (putsL l).find? (fun z => z.1 == k) = l.reverse.find? (fun z => z.1 == k) := rev_ind (fun k => rfl) (fun l z ih k => by
  rw [putsL_snoc, List.reverse_append]
  show _ = (z :: l.reverse).find? _
  have hs := withL_is_srt (putsL l) z.1 z.2 (putsL_srt l)
  rw [List.find?_cons]
  by_cases hz : z.1 = k
  · have e : (z.1 == k) = true := by simp [hz]
    rw [e]
    dsimp only
    rw [find_srt hs]
    exact ⟨(withL_inn (putsL_srt l) _ _ _).2 (.inl rfl), hz⟩
  · have e : (z.1 == k) = false := by simp [hz]
    rw [e]
    dsimp only
    rw [← ih k]
    apply Option.ext
    intro y
    rw [find_srt hs, find_srt (putsL_srt l), withL_inn (putsL_srt l)]
    constructor
    · rintro ⟨h1 | h1, h2⟩
      · subst h1; exact absurd h2 hz
      · exact ⟨h1.1, h2⟩
    · rintro ⟨h1, h2⟩
      exact ⟨.inr ⟨h1, by omega⟩, h2⟩)
/-- The last ones first, sorted, and the first of each key kept: the same. -/
theorem newL_is {l L : List Pr} (h : Le L) (hs : Stb l.reverse L) : ded L L.length = putsL l := by
  obtain ⟨h1, h2, h3⟩ := ded_is h L.length (Nat.le_refl _)
  refine srt_find h1 (putsL_srt l) (fun k => ?_)
  rw [h3 k, List.take_length, putsL_find, ← hs.find k]
theorem putsL_len : ∀ l : List Pr, (putsL l).length ≤ l.length := rev_ind (Nat.le_refl _) (fun l z h => by
  rw [putsL_snoc, List.length_append]
  have e := withL_srt (putsL l) z.1 z.2 (putsL_srt l)
  have : ∀ (L : List Pr), (L.filter (fun x => decide (x.1 < z.1))).length + (L.filter (fun x => decide (z.1 < x.1))).length ≤ L.length := by
    intro L
    induction L with
    | nil => simp
    | cons x L ih =>
      rw [List.filter_cons, List.filter_cons]
      by_cases h1 : x.1 < z.1
      · have h2 : ¬ z.1 < x.1 := by omega
        simp [h1, h2]; omega
      · by_cases h2 : z.1 < x.1
        · simp [h1, h2]; omega
        · simp [h1, h2]; omega
  rw [e]
  have := this (putsL l)
  simp only [List.length_append, List.length_singleton]
  omega)

/-- A map in block b: its pairs lie in none of S, among which b is. -/
structure MapAt (w : World) (S : Nat → Prop) (b : Nat) (L : List Pr) : Prop where
  sb : S b
  lt : b < w.heap.size
  ex : ∃ ao cap, w.cell? ⟨b, 0, none⟩ = some (.slice ao L.length cap) ∧ w.frozen? ⟨b, 0, none⟩ = false ∧ PRow w S (.slice ao L.length cap) L
theorem MapAt.below {w w' : World} {S : Nat → Prop} {b : Nat} {L : List Pr} (h : MapAt w S b L) (hb : Below w.heap.size w w') : MapAt w' S b L := by
  obtain ⟨ao, cap, h1, h2, h3⟩ := h.ex
  exact ⟨h.sb, Nat.lt_of_lt_of_le h.lt hb.size, ao, cap, (hb.cell (by exact h.lt)).trans h1, (World.frozen?_of_block (a := ⟨b, 0, none⟩) (hb.block b h.lt)).trans h2, h3.below hb⟩
theorem MapAt.sub {w : World} {S S' : Nat → Prop} {b : Nat} {L : List Pr} (h : MapAt w S b L) (hb : S' b) (hS : ∀ k, k < w.heap.size → S' k → S k) : MapAt w S' b L := by
  obtain ⟨ao, cap, h1, h2, h3⟩ := h.ex
  exact ⟨hb, h.lt, ao, cap, h1, h2, h3.sub hS⟩
theorem MapAt.only {w w' : World} {S T : Nat → Prop} {b : Nat} {L : List Pr} (h : MapAt w S b L) (o : Only T w w') (hb : ¬ T b) (hT : ∀ k, T k → S k) : MapAt w' S b L := by
  obtain ⟨ao, cap, h1, h2, h3⟩ := h.ex
  exact ⟨h.sb, Nat.lt_of_lt_of_le h.lt o.size, ao, cap, o.cell h1 hb, (World.frozen?_of_block (a := ⟨b, 0, none⟩) (o.block b h.lt hb)).trans h2, o.row h3.row (fun k hk hk2 => h3.av k hk (hT k hk2)), h3.av⟩

theorem clone_pos (a : Option Addr) (cap : Nat) (l : List Pr) (w : World) (h : Prs w a cap l) (h0 : 0 < l.length) (hl : l.length ≤ 1100000) :
    Calls Try.prog 28 #[.slice a l.length cap] w fun e w' => ∃ g cp, e = .returned (.slice (some ⟨g, 0, none⟩) l.length cp) ∧ PRow w' (fun j => j < w.heap.size) (.slice (some ⟨g, 0, none⟩) l.length cp) l ∧ Below w.heap.size w w' := by
  obtain ⟨q, hq⟩ : ∃ q, l[0]? = some q := ⟨_, List.getElem?_eq_getElem h0⟩
  obtain ⟨b, o, rfl, _⟩ := h.2.2.1 0 q hq
  refine (clone_some _ cap l w h hl).mono ?_
  rintro e w' ⟨ao, cp, rfl, hR, hb⟩
  obtain ⟨g, cap', e, _⟩ := row_at hR.row h0
  simp only [Value.slice.injEq, true_and] at e
  obtain ⟨rfl, rfl⟩ := e
  exact ⟨g, _, rfl, hR, hb⟩

/-- What model.New tells. -/
def NewIs (w : World) (L : List Pr) (e : Ending) (w' : World) : Prop :=
  ∃ b, e = .returned (.pointer (some ⟨b, 0, none⟩)) ∧ w.heap.size ≤ b ∧ MapAt w' (fun j => j < w.heap.size ∨ j = b) b L ∧ Below w.heap.size w w'

set_option maxRecDepth 100000 in
set_option maxHeartbeats 6400000 in
theorem new_pos (a : Option Addr) (cap : Nat) (l : List Pr) (w : World) (h : Prs w a cap l) (h0 : 0 < l.length) (hl : l.length ≤ 1100000) :
    Calls Try.prog 21 #[.slice a l.length cap] w (NewIs w (putsL l)) := by
  have c1 := clone_pos a cap l w h h0 hl
  have HL := Lib.hid hl
  clear h h0 hl
  obtain ⟨n, hn⟩ : ∃ n, l.length = n := ⟨_, rfl⟩
  rw [hn] at c1 ⊢
  have HN := Lib.hid hn
  clear hn
  go_enter Try.func21, Try.ntmps21
  go_wp2_with (first
    | (go_at_call 28; ((with_reducible refine c1.mono ?_); clear c1; rintro e w1 ⟨g, cp, rfl, hR, hb1⟩; have HW := Lib.hid (Wk2.start (hR.more (.cells #[.slice (some ⟨g, 0, none⟩) n cp] 88)) HN.out); have hgl : g < w1.heap.size := (hR.row.lt g rfl).2; have hgw : ¬ g = w1.heap.size := (fun e => by omega); have HGW : Hid (w.heap.size ≤ g) := Lib.hid (Nat.le_of_not_lt (hR.av g rfl)); have HG := Lib.hid hgw; have HGG := Lib.hid hgl; have k0 : (w1.alloc (.cells #[.slice (some ⟨g, 0, none⟩) n cp] 88)).cell? ⟨w1.heap.size, 0, none⟩ = some (.slice (some ⟨g, 0, none⟩) n cp) := (by simp); have HB1 := Lib.hid hb1; clear hR hb1 hgw hgl))
    | (go_at_call 37; ((with_reducible refine (rev_any g cp n l _ _ HW.out.row HN.out (by have := HN.out; have := HL.out; omega)).mono ?_); rintro e w2 ⟨rfl, hW2⟩; have HW2 := Lib.hid (HW.out.hop hW2); have k2 := hW2.o.cell k0 (fun e => HG.out e.symm); clear hW2 k0))
    | (go_at_call 38; ((with_reducible refine (sort_any g cp n _ _ _ HW2.out.row HW2.out.len (by have := HN.out; have := HL.out; omega)).mono ?_); rintro e w3 ⟨rfl, L, l1, l2, hW3⟩; have HS := Lib.hid (And.intro l1 l2); have HW3 := Lib.hid (HW2.out.hop hW3); have k3 := hW3.o.cell k2 (fun e => HG.out e.symm); clear hW3 k2 l1 l2))
    | (go_at_call 41; ((with_reducible refine (compact_any g cp n L _ _ HW3.out.row HW3.out.len (by have := HN.out; have := HL.out; omega)).mono ?_); rintro e w4 ⟨rfl, hR4, hO4⟩; have k4 := hO4.cell k3 (fun e => HG.out e.symm); have HR4 := Lib.hid hR4; have HO4 := Lib.hid (HW3.out.o.trans hO4 (fun k hk _ => hk)); have f4 : w4.frozen? ⟨w1.heap.size, 0, none⟩ = false := (World.frozen?_of_block (a := ⟨w1.heap.size, 0, none⟩) (HO4.out.block _ (by simp) (fun e => HG.out e.symm))).trans (by simp); clear hR4 hO4 k3)))
  go_ret
  have hn := HN.out
  have hL : (ded L n) = putsL l := by
    have e := newL_is HS.out.1 HS.out.2
    rw [HW3.out.len] at e
    exact e
  rw [hL] at HR4 ⊢
  have ba : Below w.heap.size w (w1.alloc (.cells #[.slice (some ⟨g, 0, none⟩) n cp] 88)) := HB1.out.alloc HB1.out.size _
  have b4 : Below w.heap.size w w4 := ba.trans (HO4.out.below (fun i hi => by rw [hi]; exact HGW.out) ba.size)
  have o5 : Only (fun k => k = w1.heap.size) w4 (w4.setCell ⟨w1.heap.size, 0, none⟩ (.slice (some ⟨g, 0, none⟩) (putsL l).length cp)) := (Only.refl (fun k => k = w1.heap.size) w4).setCell (p := ⟨w1.heap.size, 0, none⟩) (.inl rfl) _
  refine ⟨w1.heap.size, rfl, HB1.out.size, ⟨.inr rfl, ?_, some ⟨g, 0, none⟩, cp, ?_, ?_, ?_⟩, b4.trans (o5.below (fun i hi => by rw [hi]; exact HB1.out.size) b4.size)⟩
  · have := HO4.out.size
    have := o5.size
    simp at *
    omega
  · exact World.cell?_setCell_same _ _ _ k4
  · rw [World.frozen?_setCell]; exact f4
  · exact ⟨o5.row HR4.out.row (fun k hk e => HR4.out.av k hk (.inr e)), HR4.out.av⟩
set_option maxHeartbeats 1600000 in
theorem new_nil (a : Option Addr) (cap : Nat) (w : World) (h : Prs w a cap []) : Calls Try.prog 21 #[.slice a 0 cap] w (NewIs w []) := by
  have c1 : Calls Try.prog 28 #[.slice a 0 cap] w fun e w' => ∃ ao cp, e = .returned (.slice ao 0 cp) ∧ PRow w' (fun j => j < w.heap.size) (.slice ao 0 cp) [] ∧ Below w.heap.size w w' :=
    (clone_any a cap [] w h (by simp)).mono (fun e w' hh => by
      obtain ⟨ao, cp, rfl, h1, h2⟩ := hh
      exact ⟨ao, cp, rfl, h1, h2⟩)
  clear h
  have c2 := fun ao cp W => rev_zero ao cp W
  have c3 := fun ao cp fv W => sort_zero ao cp fv W
  have c4 := fun ao cp fv W => compact_less ao 0 cp fv (by omega) W
  go_enter Try.func21, Try.ntmps21
  go_wp2_with (first
    | (go_at_call 28; ((with_reducible refine c1.mono ?_); clear c1; rintro e w1 ⟨ao, cp, rfl, hR, hb1⟩; have HR := Lib.hid (hR.more (.cells #[.slice ao 0 cp] 88)); have HB1 := Lib.hid hb1; clear hR hb1))
    | (go_at_call 37; ((with_reducible refine (c2 _ _ _).mono ?_); rintro e w2 ⟨rfl, rfl⟩))
    | (go_at_call 38; ((with_reducible refine (c3 _ _ _ _).mono ?_); rintro e w3 ⟨rfl, rfl⟩))
    | (go_at_call 41; ((with_reducible refine (c4 _ _ _ _).mono ?_); rintro e w4 ⟨rfl, rfl⟩)))
  go_ret
  have ba : Below w.heap.size w (w1.alloc (.cells #[.slice ao 0 cp] 88)) := HB1.out.alloc HB1.out.size _
  generalize hw2 : w1.alloc (.cells #[.slice ao 0 cp] 88) = w2 at *
  have k2 : w2.cell? ⟨w1.heap.size, 0, none⟩ = some (.slice ao 0 cp) := by rw [← hw2]; simp
  have f2 : w2.frozen? ⟨w1.heap.size, 0, none⟩ = false := by rw [← hw2]; simp
  have z2 : w1.heap.size < w2.heap.size := by rw [← hw2]; simp
  exact ⟨w1.heap.size, rfl, HB1.out.size, ⟨.inr rfl, z2, ao, cp, k2, f2, HR.out⟩, ba⟩
theorem new_any (a : Option Addr) (cap : Nat) (l : List Pr) (w : World) (h : Prs w a cap l) (hl : l.length ≤ 1100000) :
    Calls Try.prog 21 #[.slice a l.length cap] w (NewIs w (putsL l)) := by
  rcases Nat.eq_zero_or_pos l.length with h0 | h0
  · have e : l = [] := List.eq_nil_of_length_eq_zero h0
    subst e
    exact new_nil a cap w h
  · exact new_pos a cap l w h h0 hl
end Go.Proofs.Ytadfnbmogobopaa
