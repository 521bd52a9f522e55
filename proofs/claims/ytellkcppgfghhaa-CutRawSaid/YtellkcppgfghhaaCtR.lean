/- Contracts of ways down and of package cut over any arena: at, joined, without, Cut: each ends, and no item that was is another one. -/
import Derived.Test.YtellkcppgfghhaaCt2
import Derived.Deep.RegionLaw
namespace Go.Proofs.Ytellkcppgfghhaa
open Go.RowKit
set_option linter.all false

/-- What counts. -/
def cntL (L : List It) (t c : Int) : Int := if kindL L c = 1 ∧ c < t then c else 0
section
variable {w W W' : World} {p : Nat} {F : Nat → Prop} {room st : Int} {L : List It}
theorem counted_out (h : Arena w p F room st L) (t c : Int) (hn : ¬ (kindL L c = 1 ∧ c < t)) :
    Calls Try.prog 65 #[.pointer (some ⟨p, 0, none⟩), .int .i64 t, .int .i64 c] w fun e w' => e = .returned (.int .i64 0) ∧ Below w.heap.size w w' := by
  by_cases hk : kindL L c = 1
  · have cg := get_yes c w p F room st L h hk
    have hd : decide (c < t) = false := decide_eq_false (fun hl => hn ⟨hk, hl⟩)
    clear hk h hn
    go_enter Try.func65, Try.ntmps65
    go_wp2_with (go_at_call 38; ((with_reducible refine cg.mono ?_); clear cg; rintro e w2 ⟨rfl, hb⟩))
    go_ret
    exact ⟨rfl, hb.alloc hb.size _⟩
  · have cg := get_no c w p F room st L h hk
    clear hk h hn
    go_enter Try.func65, Try.ntmps65
    go_wp2_with (go_at_call 38; ((with_reducible refine cg.mono ?_); clear cg; rintro e w2 ⟨rfl, hb⟩))
    go_ret
    exact ⟨rfl, hb.alloc hb.size _⟩
theorem counted_any (h : Arena w p F room st L) (t c : Int) :
    Calls Try.prog 65 #[.pointer (some ⟨p, 0, none⟩), .int .i64 t, .int .i64 c] w fun e w' => e = .returned (.int .i64 (cntL L t c)) ∧ Below w.heap.size w w' := by
  unfold cntL
  by_cases hc : kindL L c = 1 ∧ c < t
  · rw [if_pos hc]; exact counted_node h t c hc.1 hc.2
  · rw [if_neg hc]; exact counted_out h t c hc

theorem AtS.put2 {b : Nat} {k v x y s h : Int} (H : AtS w W b k v x y s h) (x' : Int) : AtS w (W.setCell ⟨b, 2, none⟩ (.int .i64 x')) b k v x' y s h := by
  have hb : Below b W (W.setCell ⟨b, 2, none⟩ (.int .i64 x')) := Below.setCell (Below.refl _ _) (Nat.le_refl b) _
  obtain ⟨⟨⟨c0, c1, c2, c3, c4, c5⟩, f0, f1, f2, f3, f4, f5⟩, z, o, lt⟩ := H
  exact ⟨⟨⟨keepc c0 (by decide), keepc c1 (by decide), World.cell?_setCell_same _ _ _ c2, keepc c3 (by decide), keepc c4 (by decide), keepc c5 (by decide)⟩, by simpa using f0, by simpa using f1, by simpa using f2, by simpa using f3, by simpa using f4, by simpa using f5⟩, z.under hb lt, o.trans (hb.mono (Nat.le_of_lt lt)), lt⟩
theorem AtS.put3 {b : Nat} {k v x y s h : Int} (H : AtS w W b k v x y s h) (y' : Int) : AtS w (W.setCell ⟨b, 3, none⟩ (.int .i64 y')) b k v x y' s h := by
  have hb : Below b W (W.setCell ⟨b, 3, none⟩ (.int .i64 y')) := Below.setCell (Below.refl _ _) (Nat.le_refl b) _
  obtain ⟨⟨⟨c0, c1, c2, c3, c4, c5⟩, f0, f1, f2, f3, f4, f5⟩, z, o, lt⟩ := H
  exact ⟨⟨⟨keepc c0 (by decide), keepc c1 (by decide), keepc c2 (by decide), World.cell?_setCell_same _ _ _ c3, keepc c4 (by decide), keepc c5 (by decide)⟩, by simpa using f0, by simpa using f1, by simpa using f2, by simpa using f3, by simpa using f4, by simpa using f5⟩, z.under hb lt, o.trans (hb.mono (Nat.le_of_lt lt)), lt⟩
end

set_option maxRecDepth 100000 in
set_option maxHeartbeats 3200000 in
theorem at_gen (q : Option Addr) (t k v x y x' y' s h : Int) (b : Bool) (w : World)
    (cg : ∀ W, Below w.heap.size w W → Calls Try.prog 38 #[.pointer q, .int .i64 t] W fun e w' => e = .returned (.tuple #[.agg #[.int .i64 k, .int .i64 v, .int .i64 x, .int .i64 y, .int .i64 s, .int .i64 h], .bool b]) ∧ Below W.heap.size W w')
    (c1 : ∀ W, Below w.heap.size w W → Calls Try.prog 65 #[.pointer q, .int .i64 t, .int .i64 x] W fun e w' => e = .returned (.int .i64 x') ∧ Below W.heap.size W w')
    (c2 : ∀ W, Below w.heap.size w W → Calls Try.prog 65 #[.pointer q, .int .i64 t, .int .i64 y] W fun e w' => e = .returned (.int .i64 y') ∧ Below W.heap.size W w') :
    Calls Try.prog 51 #[.pointer q, .int .i64 t] w fun e w' => e = .returned (.tuple #[.agg #[.int .i64 k, .int .i64 v, .int .i64 x', .int .i64 y', .int .i64 s, .int .i64 h], .bool b]) ∧ Below w.heap.size w w' := by
  have ba : ∀ o, Below w.heap.size w (w.alloc o) := fun o => (Below.refl _ _).alloc (Nat.le_refl _) _
  have k1 := Lib.hid c1
  have k2 := Lib.hid c2
  clear c1 c2
  go_enter Try.func51, Try.ntmps51
  go_wp2_with (go_at_call 38; ((with_reducible refine (cg _ (ba _)).mono ?_); clear cg; rintro e w2 ⟨rfl, hb⟩))
  have H0 := (AtS.new (k := k) (v := v) (x := x) (y := y) (s := s) (h := h) hb).keep ((Below.refl _ _).drew)
  have HA := Lib.hid H0
  obtain ⟨⟨⟨-, -, c2, c3, -, -⟩, -, -, f2, f3, -, -⟩, -, -, -⟩ := H0
  clear hb ba
  go_region_with (first
    | (go_at_call 65; ((with_reducible refine (k1.out _ HA.out.o).mono ?_); rintro e w3 ⟨rfl, hb3⟩; have HB := Lib.hid (HA.out.keep hb3); have c3 := HB.out.n.c3; have c2 := HB.out.n.c2; have f3 := HB.out.n.f3; have f2 := HB.out.n.f2; clear hb3))
    | (go_at_call 65; ((with_reducible refine (k2.out _ HB.out.o).mono ?_); rintro e w4 ⟨rfl, hb4⟩; have HC := Lib.hid (HB.out.keep hb4); have c3 := HC.out.n.c3; have c2 := HC.out.n.c2; have f3 := HC.out.n.f3; have f2 := HC.out.n.f2; clear hb4)))
  all_goals (
    have HD : ∃ W5, W5 = (w4.setCell ⟨w2.heap.size, 2, none⟩ (.int .i64 x')).setCell ⟨w2.heap.size, 3, none⟩ (.int .i64 y') ∧ AtS w W5 w2.heap.size k v x' y' s h := ⟨_, rfl, (HC.out.put2 x').put3 y'⟩
    obtain ⟨W5, hW5, HE⟩ := HD
    rw [← hW5]
    clear hW5 c2 c3 f2 f3 HC HB HA k1 k2
    obtain ⟨⟨⟨c0, c1, c2, c3, c4, c5⟩, -, -, -, -, -, -⟩, zz, ob, -⟩ := HE
    obtain ⟨Wf, hWf, r0, r1, r2, r3, r4, r5, rb⟩ := zz.put (.int .i64 k) (.int .i64 v) (.int .i64 x') (.int .i64 y') (.int .i64 s) (.int .i64 h)
    obtain ⟨z0, z1, z2, z3, z4, z5, f0, f1, f2, f3, f4, f5⟩ := zz
    go_wp2_with (fail)
    rw [← hWf]
    clear hWf z0 z1 z2 z3 z4 z5 f0 f1 f2 f3 f4 f5
    refine bodyPost_ret (v := .tuple #[.agg #[.int .i64 k, .int .i64 v, .int .i64 x', .int .i64 y', .int .i64 s, .int .i64 h], .bool b]) (by simp [results, Try.results51, go_sem, r0, r1, r2, r3, r4, r5]) rfl ⟨rfl, ob.trans rb⟩)

/-- Items of 64-bit numbers. -/
def Wide (L : List It) : Prop := ∀ it ∈ L, ∀ v ∈ it.2, -9223372036854775808 ≤ v ∧ v ≤ 9223372036854775807
theorem Wide.val {L : List It} (h : Wide L) (id i : Int) : -9223372036854775808 ≤ valL L id i ∧ valL L id i ≤ 9223372036854775807 := by
  unfold valL itemAt
  by_cases h1 : id < 1
  · rw [if_pos h1]; simp
  · rw [if_neg h1]
    cases he : L[(id - 1).toNat]? with
    | none => simp
    | some it =>
      dsimp only
      split
      · omega
      · rw [List.getD_eq_getElem?_getD]
        cases hv : it.2[i.toNat]? with
        | none => simp
        | some u => exact h it (List.mem_of_getElem? he) u (List.mem_of_getElem? hv)
theorem Wide.snoc {L : List It} (h : Wide L) (k v x y s hh : Int) (h0 : -9223372036854775808 ≤ k ∧ k ≤ 9223372036854775807) (h1 : -9223372036854775808 ≤ v ∧ v ≤ 9223372036854775807) (h2 : -9223372036854775808 ≤ x ∧ x ≤ 9223372036854775807) (h3 : -9223372036854775808 ≤ y ∧ y ≤ 9223372036854775807)
    (h4 : -9223372036854775808 ≤ s ∧ s ≤ 9223372036854775807) (h5 : -9223372036854775808 ≤ hh ∧ hh ≤ 9223372036854775807) : Wide (L ++ [(1, [k, v, x, y, s, hh])]) := by
  intro it hit u hu
  rcases List.mem_append.1 hit with hit | hit
  · exact h it hit u hu
  · rw [List.mem_singleton] at hit
    subst hit
    simp only [List.mem_cons, List.mem_nil_iff, or_false] at hu
    rcases hu with rfl | rfl | rfl | rfl | rfl | rfl <;> assumption
theorem oneM_wide {m n : Int} (h1 : -9223372036854775808 ≤ m ∧ m ≤ 9223372036854775807) (h2 : -9223372036854775808 ≤ n ∧ n ≤ 9223372036854775807) : -9223372036854775808 ≤ oneM m n ∧ oneM m n ≤ 9223372036854775807 := by
  unfold oneM; split
  · omega
  · split <;> omega
theorem HungOk.app {L : List It} {t : Int} (h : HungOk L t) (M : List It) : HungOk (L ++ M) t := by
  rcases h with h | h
  · exact .inl h
  · refine .inr ?_
    unfold kindL at h ⊢
    cases he : itemAt L t with
    | none => rw [he] at h; simp at h
    | some it => rw [itemAt_app he M]; rw [he] at h; exact h
theorem HungOk.range {L : List It} {t : Int} (h : HungOk L t) : 0 ≤ t ∧ t ≤ L.length := by
  rcases h with h | h
  · omega
  · have := kind_one_range h; omega
theorem Wide.hung {L : List It} (h : Wide L) {t : Int} (ht : HungOk L t) : Hung L t (sizeL L t) (highL L t) := by
  have h4 := h.val t 4
  have h5 := h.val t 5
  refine ⟨ht, rfl, rfl, ?_, ?_, ?_, ?_⟩ <;> (first | unfold sizeL | unfold highL) <;> split <;> omega
theorem cntL_ok (L : List It) (t c : Int) : HungOk L (cntL L t c) := by
  unfold cntL; split
  · rename_i h; exact .inr h.1
  · exact .inl rfl
theorem cntL_lt (L : List It) {t : Int} (c : Int) (ht : 0 < t) : cntL L t c < t := by
  unfold cntL; split
  · rename_i h; exact h.2
  · exact ht

/-- What is made over any arena: a node, or nothing that hangs. -/
def RawQ (L : List It) (M : List It) (n er : Int) : Prop := Wide (L ++ M) ∧ (er = 0 → HungOk (L ++ M) n)

section
variable {w W W' : World} {p : Nat} {F : Nat → Prop} {room st : Int} {L : List It}
theorem at_node (hA : Arena w p F room st L) (t : Int) (hk : kindL L t = 1) : ∀ W, Below w.heap.size w W →
    Calls Try.prog 51 #[.pointer (some ⟨p, 0, none⟩), .int .i64 t] W fun e w' => e = .returned (.tuple #[.agg #[.int .i64 (valL L t 0), .int .i64 (valL L t 1), .int .i64 (cntL L t (valL L t 2)), .int .i64 (cntL L t (valL L t 3)), .int .i64 (valL L t 4), .int .i64 (valL L t 5)], .bool true]) ∧ Below W.heap.size W w' :=
  fun V hv => at_gen (some ⟨p, 0, none⟩) t _ _ _ _ _ _ _ _ true V (fun U hu => get_yes t U p F room st L ((hA.below hv).below hu) hk) (fun U hu => counted_any ((hA.below hv).below hu) t _) (fun U hu => counted_any ((hA.below hv).below hu) t _)
theorem make_raw {M : List It} (hA : Arena w p F room st (L ++ M)) {x y k v er : Int} (hk : -9223372036854775808 ≤ k ∧ k ≤ 9223372036854775807) (hv : -9223372036854775808 ≤ v ∧ v ≤ 9223372036854775807) (hw : Wide (L ++ M))
    (hx : er = 0 → HungOk (L ++ M) x) (hy : er = 0 → HungOk (L ++ M) y) :
    Calls Try.prog 53 #[.pointer (some ⟨p, 0, none⟩), .agg #[.int .i64 k, .int .i64 v], .int .i64 x, .int .i64 y, .int .i64 er] w (Told w p F room st (L ++ M) (fun M2 n er' => RawQ L (M ++ M2) n er')) := by
  by_cases he : er = 0
  · subst he
    have ox := hx rfl
    have oy := hy rfl
    have gx := hw.hung ox
    have gy := hw.hung oy
    have rx := ox.range
    have ry := oy.range
    have hfit : ((L ++ M).length : Int) ≤ room ∧ room ≤ 60000 := by obtain ⟨sv, vv, hi, _⟩ := hA; exact ⟨hi.fits, hi.max⟩
    refine (madeOf_go _ k v x y w (fun n er' w' => ∃ M2, Grew w p F room st (L ++ M ++ M2) w' ∧ RawQ L (M ++ M2) n er') (fun W hb => ?_)).mono ?_
    · by_cases hr : ((L ++ M).length : Int) < room
      · refine (nmake_ok k v (hA.below hb) gx gy hr).mono ?_
        rintro e w' ⟨rfl, ha, ho⟩
        have hg : Grew W p F room st (L ++ M ++ [(1, [k, v, x, y, oneM (sizeL (L ++ M) x) (sizeL (L ++ M) y), oneM (max (highL (L ++ M) x) (highL (L ++ M) y)) 0])]) w' := ⟨ha, ho⟩
        refine ⟨_, 0, rfl, _, hg.since hb (fun k hk => hk), ?_, fun _ => ?_⟩
        · rw [← List.append_assoc]
          have s0 := gx.s0; have s1 := gx.s1; have s2 := gy.s0; have s3 := gy.s1
          have t0 := gx.h0; have t1 := gx.h1; have t2 := gy.h0; have t3 := gy.h1
          exact hw.snoc k v x y _ _ hk hv ⟨by omega, by omega⟩ ⟨by omega, by omega⟩ (oneM_wide ⟨s0, s1⟩ ⟨s2, s3⟩) (oneM_wide ⟨by omega, by omega⟩ (by omega))
        · rw [← List.append_assoc]
          refine .inr ?_
          unfold kindL
          rw [itemAt_new (L ++ M) _ _ (by omega)]
          rfl
      · have hfull : room = (L ++ M).length := by omega
        refine (nmake_full k v (hA.below hb) gx gy hfull).mono ?_
        rintro e w' ⟨rfl, hb2⟩
        exact ⟨0, 2, rfl, [], by rw [List.append_nil]; exact Grew.ofBelow hA (hb.trans (hb2.mono hb.size)), by rw [List.append_nil]; exact hw, fun h => absurd h (by decide)⟩
    · rintro e w' ⟨n, er', rfl, M2, hg, hq⟩
      exact ⟨n, er', M2, rfl, hg, hq⟩
  · refine (madeOf_err _ k v x y er w he).mono ?_
    rintro e w' ⟨rfl, hb⟩
    exact Told.none hA hb ⟨by rw [List.append_nil]; exact hw, fun h => absurd h he⟩
end

theorem joined_raw (p : Nat) (room st : Int) (N : Nat) : ∀ (w : World) (l r : Int) (L : List It) (F : Nat → Prop), l.toNat + r.toNat ≤ N → HungOk L l → HungOk L r → Wide L → Arena w p F room st L →
    Calls Try.prog 42 #[.pointer (some ⟨p, 0, none⟩), .int .i64 l, .int .i64 r] w (Told w p F room st L (RawQ L)) := by
  induction N with
  | zero =>
    intro w l r L F hN hl hr hw hA
    have hl0 := hl.range
    have hr0 := hr.range
    obtain rfl : l = 0 := by omega
    obtain rfl : r = 0 := by omega
    refine (joined_l (fun W hb => at_zero (hA.below hb)) (fun W hb => at_zero (hA.below hb))).mono ?_
    rintro e w' ⟨rfl, hb⟩
    exact Told.none hA hb ⟨by rw [List.append_nil]; exact hw, fun _ => .inl rfl⟩
  | succ N ih =>
    intro w l r L F hN hl hr hw hA
    have hl0 := hl.range
    have hr0 := hr.range
    have cb : ∃ (k v x y s h : Int) (b : Bool), ∀ W, Below w.heap.size w W → Calls Try.prog 51 #[.pointer (some ⟨p, 0, none⟩), .int .i64 r] W fun e w' =>
      e = .returned (.tuple #[.agg #[.int .i64 k, .int .i64 v, .int .i64 x, .int .i64 y, .int .i64 s, .int .i64 h], .bool b]) ∧ Below W.heap.size W w' := by
      rcases hr with rfl | hk
      · exact ⟨_, _, _, _, _, _, _, fun W hb => at_zero (hA.below hb)⟩
      · exact ⟨_, _, _, _, _, _, _, at_node hA r hk⟩
    by_cases hl1 : l = 0
    · subst hl1
      obtain ⟨k, v, x, y, s, h, b, cb⟩ := cb
      refine (joined_l (fun W hb => at_zero (hA.below hb)) cb).mono ?_
      rintro e w' ⟨rfl, hb⟩
      exact Told.none hA hb ⟨by rw [List.append_nil]; exact hw, fun _ => hr.app []⟩
    have hkl := hl.resolve_left hl1
    by_cases hr1 : r = 0
    · subst hr1
      refine (joined_r (at_node hA l hkl) (fun W hb => at_zero (hA.below hb))).mono ?_
      rintro e w' ⟨rfl, hb⟩
      exact Told.none hA hb ⟨by rw [List.append_nil]; exact hw, fun _ => hl.app []⟩
    have hkr := hr.resolve_left hr1
    have lt1 := cntL_lt L (valL L l 3) (show 0 < l by omega)
    have lt2 := cntL_lt L (valL L r 2) (show 0 < r by omega)
    have ok1 := (cntL_ok L l (valL L l 3)).range
    have ok2 := (cntL_ok L r (valL L r 2)).range
    have cab := fun W => mixAbove_any (valL L l 0) (valL L r 0) W
    by_cases hab : abv (valL L l 0) (valL L r 0) = true
    · rw [hab] at cab
      exact joined_left (Q1 := RawQ L) (Q2 := fun M M2 n er => RawQ L (M ++ M2) n er) hA (at_node hA l hkl) (at_node hA r hkr) cab
        (fun W G hW => ih W _ r L G (by omega) (cntL_ok _ _ _) hr hw hW)
        (fun W G M z er hW hq => make_raw hW (hw.val _ _) (hw.val _ _) hq.1 (fun _ => (cntL_ok L l _).app M) hq.2)
        (fun M M2 n er h => h)
    · have hab' : abv (valL L l 0) (valL L r 0) = false := by simpa using hab
      rw [hab'] at cab
      exact joined_right (Q1 := RawQ L) (Q2 := fun M M2 n er => RawQ L (M ++ M2) n er) hA (at_node hA l hkl) (at_node hA r hkr) cab
        (fun W G hW => ih W l _ L G (by omega) hl (cntL_ok _ _ _) hw hW)
        (fun W G M z er hW hq => make_raw hW (hw.val _ _) (hw.val _ _) hq.1 hq.2 (fun _ => (cntL_ok L r _).app M))
        (fun M M2 n er h => h)

theorem without_raw (p : Nat) (room st k : Int) (N : Nat) : ∀ (w : World) (t : Int) (L : List It) (F : Nat → Prop), t.toNat ≤ N → HungOk L t → Wide L → Arena w p F room st L →
    Calls Try.prog 37 #[.pointer (some ⟨p, 0, none⟩), .int .i64 t, .int .i64 k] w (Told w p F room st L (RawQ L)) := by
  have zero : ∀ (w : World) (L : List It) (F : Nat → Prop), Wide L → Arena w p F room st L →
      Calls Try.prog 37 #[.pointer (some ⟨p, 0, none⟩), .int .i64 0, .int .i64 k] w (Told w p F room st L (RawQ L)) := fun w L F hw hA =>
    without_zero hA (fun W hb => at_zero (hA.below hb)) (fun W G hW => joined_raw p room st 0 W 0 0 L G (by simp) (.inl rfl) (.inl rfl) hw hW)
  induction N with
  | zero =>
    intro w t L F hN ht hw hA
    have ht0 := ht.range
    obtain rfl : t = 0 := by omega
    exact zero w L F hw hA
  | succ N ih =>
    intro w t L F hN ht hw hA
    have ht0 := ht.range
    by_cases ht1 : t = 0
    · subst ht1; exact zero w L F hw hA
    have hk := ht.resolve_left ht1
    have lt1 := cntL_lt L (valL L t 2) (show 0 < t by omega)
    have lt2 := cntL_lt L (valL L t 3) (show 0 < t by omega)
    have ok1 := (cntL_ok L t (valL L t 2)).range
    have ok2 := (cntL_ok L t (valL L t 3)).range
    rcases Int.lt_trichotomy k (valL L t 0) with h | h | h
    · exact without_left (Q1 := RawQ L) (Q2 := fun M M2 n er => RawQ L (M ++ M2) n er) hA (at_node hA t hk) h
        (fun W G hW => ih W _ L G (by omega) (cntL_ok _ _ _) hw hW)
        (fun W G M z er hW hq => make_raw hW (hw.val _ _) (hw.val _ _) hq.1 hq.2 (fun _ => (cntL_ok L t _).app M))
        (fun M M2 n er h => h)
    · exact without_here hA (at_node hA t hk) h.symm (fun W G hW => joined_raw p room st _ W _ _ L G (Nat.le_refl _) (cntL_ok _ _ _) (cntL_ok _ _ _) hw hW)
    · exact without_right (Q1 := RawQ L) (Q2 := fun M M2 n er => RawQ L (M ++ M2) n er) hA (at_node hA t hk) h
        (fun W G hW => ih W _ L G (by omega) (cntL_ok _ _ _) hw hW)
        (fun W G M z er hW hq => make_raw hW (hw.val _ _) (hw.val _ _) hq.1 (fun _ => (cntL_ok L t _).app M) hq.2)
        (fun M M2 n er h => h)

/-- Cut of whatever it is: it ends, and all items are as they were. -/
theorem cut_raw {w0 w : World} {p : Nat} {room st : Int} {L : List It} (h : Held w0 w p room st L) (hw : Wide L) (t k : Int) :
    Calls Try.prog 17 #[.pointer (some ⟨p, 0, none⟩), .int .i64 t, .int .i64 k] w fun e w' =>
      ∃ (n old er : Int) (b : Bool) (M : List It), e = .returned (.tuple #[.int .i64 n, .int .i64 old, .bool b, .int .i64 er]) ∧ Held w0 w' p room st (L ++ M) := by
  by_cases ht : HungOk L t
  · have ct : ∀ W, Below w.heap.size w W → Calls Try.prog 35 #[.pointer (some ⟨p, 0, none⟩), .int .i64 t] W fun e w' => e = .returned (.bool true) ∧ Below W.heap.size W w' :=
      fun W hb => isTreap_is (h.a.below hb) t true ⟨fun _ => ht, fun _ => rfl⟩
    cases hg : getL L t k with
    | none =>
      refine (cut_lacks _ t k 0 w ct (fun W hb => lget_any t k W (Gets.ofArena (h.a.below hb)) 0 false (by rw [hg]; rfl) (by rw [hg]; rfl))).mono ?_
      rintro e w' ⟨rfl, hb⟩
      exact ⟨_, _, _, _, [], rfl, by rw [List.append_nil]; exact h.below hb⟩
    | some old =>
      refine (cut_goes h.a ct (fun W hb => lget_any t k W (Gets.ofArena (h.a.below hb)) old true (by rw [hg]; rfl) (by rw [hg]; rfl))
        (fun W hW => without_raw p room st k _ W t L _ (Nat.le_refl _) ht hw hW)).mono ?_
      rintro e w' ⟨n, er, M, hg, hq, ⟨_, rfl⟩ | ⟨_, rfl⟩⟩
      · exact ⟨_, _, _, _, M, rfl, h.grew hg (fun _ hk => hk)⟩
      · exact ⟨_, _, _, _, M, rfl, h.grew hg (fun _ hk => hk)⟩
  · refine (cut_no h.a t k ht).mono ?_
    rintro e w' ⟨rfl, hb⟩
    exact ⟨_, _, _, _, [], rfl, by rw [List.append_nil]; exact h.below hb⟩
end Go.Proofs.Ytellkcppgfghhaa
