/- put's parted, over the treap of sorted pairs. -/
import Derived.Test.YtmbeaefgakfbnaaPt3
namespace Go.Proofs.Ytmbeaefgakfbnaa
open Go.RowKit
set_option linter.all false

/-- What parted tells: the pairs below the key and the others, or no room. -/
def PartSays (w : World) (p : Nat) (F : Nat → Prop) (room st : Int) (L : List It) (k : Int) (l : List Pr) (e : Ending) (w' : World) : Prop :=
  ∃ (x y er : Int) (M : List It), e = .returned (.tuple #[.int .i64 x, .int .i64 y, .int .i64 er]) ∧ Grew w p F room st (L ++ M) w' ∧
    ((er = 0 ∧ M.length ≤ hi l ∧ Tree (L ++ M) x (loL l k) ∧ Tree (L ++ M) y (hiL l k)) ∨ (er = 2 ∧ room = ((L ++ M).length : Nat) ∧ M.length + 1 ≤ hi l))

theorem loL_len (l : List Pr) (k : Int) : (loL l k).length ≤ l.length := List.length_filter_le _ _
theorem hiL_len (l : List Pr) (k : Int) : (hiL l k).length ≤ l.length := List.length_filter_le _ _

set_option maxRecDepth 100000 in
set_option maxHeartbeats 3200000 in
theorem parted_nil (k : Int) (w : World) (p : Nat) (F : Nat → Prop) (room st : Int) (L : List It) (hA : Arena w p F room st L) :
    Calls Try.prog 36 #[.pointer (some ⟨p, 0, none⟩), .int .i64 0, .int .i64 k] w (PartSays w p F room st L k []) := by
  have ca := at_zero hA
  have HA := Lib.hid hA
  clear hA
  go_enter Try.func36, Try.ntmps36
  go_wp2_with (go_at_call 34; ((with_reducible refine ca.mono ?_); clear ca; rintro e w1 ⟨rfl, hb⟩))
  refine bodyPost_ret (v := .tuple #[.int .i64 0, .int .i64 0, .int .i64 0]) (by simp [results, Try.results36, go_sem]) rfl ?_
  refine ⟨0, 0, 0, [], rfl, Grew.ofBelow (by rw [List.append_nil]; exact HA.out) (hb.alloc hb.size _), .inl ⟨rfl, by simp, ?_, ?_⟩⟩
  · rw [loL_nil]; exact .nil
  · rw [hiL_nil]; exact .nil

set_option maxRecDepth 100000 in
set_option maxHeartbeats 3200000 in
theorem parted_any (p : Nat) (room st k : Int) (N : Nat) : ∀ (l : List Pr) (w : World) (t : Int) (L : List It) (F : Nat → Prop), l.length ≤ N → Srt l → (∀ z ∈ l, z.1 ≠ k) → l.length ≤ 1000 → Tree L t l → Arena w p F room st L →
    Calls Try.prog 36 #[.pointer (some ⟨p, 0, none⟩), .int .i64 t, .int .i64 k] w (PartSays w p F room st L k l) := by
  induction N with
  | zero =>
    intro l w t L F hN hs hk hl T hA
    obtain rfl : l = [] := List.length_eq_zero_iff.1 (by omega)
    cases T.apart hs with
    | inl h => obtain ⟨rfl, _⟩ := h; exact parted_nil k w p F room st L hA
    | inr h => obtain ⟨x, y, A, B, q, e, _⟩ := h; simp at e
  | succ N ih =>
    intro l w t L F hN hs hk hl T hA
    rcases T.apart hs with ⟨rfl, rfl⟩ | ⟨x, y, A, B, q, rfl, AP⟩
    · exact parted_nil k w p F room st L hA
    · obtain ⟨k0, v0⟩ := q
      have hlen : (A ++ (k0, v0) :: B).length = A.length + B.length + 1 := by simp; omega
      rw [hlen] at hN hl
      obtain ⟨s, hh, ca⟩ := at_apart hA AP hl
      dsimp only at ca
      have hne : k0 ≠ k := hk (k0, v0) (by simp)
      have hh1 := hi_app hs AP.top
      obtain ⟨sA, sB, bA, bB⟩ := hs.parts
      have top := AP.top
      dsimp only at top bA bB
      by_cases hd : k0 < k
      · have hd' : decide (k0 < k) = true := decide_eq_true hd
        have cr := fun W G (hW : Arena W p G room st L) => ih B W y L G (by omega) sB (fun z hz => hk z (by simp [hz])) (by omega) AP.ty hW
        have cm := fun W G (M : List It) x1 er (hW : Arena W p G room st M) hc => madeOf_tree (x := x) (y := x1) (k := k0) (v := v0) (er := er) (A := A) (B := loL B k) hW
          (Srt.cat sA (loL_srt sB k) bA (fun z hz => bB z (loL_mem.1 hz).1))
          (fun z hz => top z (by
            rcases List.mem_append.1 hz with hz | hz
            · exact List.mem_append_left _ hz
            · exact List.mem_append_right _ (loL_mem.1 hz).1)) (by have := loL_len B k; omega) hc
        have fin : ∀ W (M M2 : List It) (n y1 er er' : Int), Grew w p F room st (L ++ M ++ M2) W → M2.length ≤ 1 →
            ((er = 0 ∧ M.length ≤ hi B ∧ Tree (L ++ M) y1 (hiL B k)) ∨ (er = 2 ∧ M.length + 1 ≤ hi B ∧ er' ≠ 0)) →
            ((er' = 0 ∧ Tree (L ++ M ++ M2) n (A ++ (k0, v0) :: loL B k)) ∨ (er' = 2 ∧ M2 = [] ∧ room = (L ++ M).length)) →
            PartSays w p F room st L k (A ++ (k0, v0) :: B) (.returned (.tuple #[.int .i64 n, .int .i64 y1, .int .i64 er'])) W := by
          intro W M M2 n y1 er er' hg hM2 h1 h2
          refine ⟨n, y1, er', M ++ M2, rfl, by rw [← List.append_assoc]; exact hg, ?_⟩
          rw [← List.append_assoc, loL_right hs hd, hiL_right hs (Int.le_of_lt hd), hh1]
          rcases h2 with ⟨rfl, T1⟩ | ⟨rfl, rfl, hr⟩
          · rcases h1 with ⟨rfl, hM, T2⟩ | ⟨_, _, h⟩
            · exact .inl ⟨rfl, by rw [List.length_append]; omega, T1, T2.app _⟩
            · exact absurd rfl h
          · rw [List.append_nil, List.append_nil]
            refine .inr ⟨rfl, hr, ?_⟩
            rcases h1 with ⟨_, hM, _⟩ | ⟨_, hM, _⟩ <;> omega
        have FIN := Lib.hid fin
        have CM := Lib.hid cm
        have HA := Lib.hid hA
        have ATX := Lib.hid AP.tx
        clear fin cm hA hk hs T AP hh1 sA sB bA bB top hl hlen hN ih hne hd
        go_enter Try.func36, Try.ntmps36
        go_wp2_with (first
          | (go_at_call 34; ((with_reducible refine ca.mono ?_); clear ca; rintro e w1 ⟨rfl, hb⟩; have bw := hb.alloc hb.size (.cells #[.int .i64 k0, .int .i64 v0, .int .i64 x, .int .i64 y, .int .i64 s, .int .i64 hh] 55); have W1 := Wk.begin (b := w1.heap.size) (c := w1.heap.size) HA.out bw hb.size hb.size (by simp) (by simp); have N1 := (Six.new w1 k0 v0 x y s hh 55).toNodeAt))
          | (go_at_call 36; ((with_reducible refine (cr _ _ W1.a).mono ?_); clear cr; rintro e w2 ⟨x1, y1, er, M, rfl, hg, hc⟩; have W2 := W1.go hg; obtain ⟨c0, c1, c2, c3, c4, c5⟩ := Wk.node hg N1; have HC := Lib.hid hc; clear hc hg))
          | (go_at_call 37; ((with_reducible refine (CM.out _ _ (L ++ M) x1 er W2.a (HC.out.imp (fun h => ⟨h.1, ATX.out.app _, h.2.2.1⟩) (fun h => ⟨h.1, h.2.1⟩))).mono ?_); rintro e w3 ⟨n, er', rfl, hee, M2, hg2, hM2, hc2⟩)))
        refine bodyPost_ret (v := .tuple #[.int .i64 n, .int .i64 y1, .int .i64 er']) (by simp [results, Try.results36, go_sem]) rfl ?_
        refine FIN.out _ M M2 n y1 er er' (W2.go hg2).grew hM2 ?_ hc2
        rcases HC.out with ⟨h1, h2, h3, h4⟩ | ⟨h1, h2, h3⟩
        · exact .inl ⟨h1, h2, h4⟩
        · refine .inr ⟨h1, h3, ?_⟩
          rw [hee h1]; decide
      · have hkd : k < k0 := by omega
        have hd' : decide (k0 < k) = false := decide_eq_false hd
        have cr := fun W G (hW : Arena W p G room st L) => ih A W x L G (by omega) sA (fun z hz => hk z (by simp [hz])) (by omega) AP.tx hW
        have cm := fun W G (M : List It) y1 er (hW : Arena W p G room st M) hc => madeOf_tree (x := y1) (y := y) (k := k0) (v := v0) (er := er) (A := hiL A k) (B := B) hW
          (Srt.cat (hiL_srt sA k) sB (fun z hz => bA z (hiL_mem.1 hz).1) bB)
          (fun z hz => top z (by
            rcases List.mem_append.1 hz with hz | hz
            · exact List.mem_append_left _ (hiL_mem.1 hz).1
            · exact List.mem_append_right _ hz)) (by have := hiL_len A k; omega) hc
        have fin : ∀ W (M M2 : List It) (n x1 er er' : Int), Grew w p F room st (L ++ M ++ M2) W → M2.length ≤ 1 →
            ((er = 0 ∧ M.length ≤ hi A ∧ Tree (L ++ M) x1 (loL A k)) ∨ (er = 2 ∧ M.length + 1 ≤ hi A ∧ er' ≠ 0)) →
            ((er' = 0 ∧ Tree (L ++ M ++ M2) n (hiL A k ++ (k0, v0) :: B)) ∨ (er' = 2 ∧ M2 = [] ∧ room = (L ++ M).length)) →
            PartSays w p F room st L k (A ++ (k0, v0) :: B) (.returned (.tuple #[.int .i64 x1, .int .i64 n, .int .i64 er'])) W := by
          intro W M M2 n x1 er er' hg hM2 h1 h2
          refine ⟨x1, n, er', M ++ M2, rfl, by rw [← List.append_assoc]; exact hg, ?_⟩
          rw [← List.append_assoc, loL_left hs (Int.le_of_lt hkd), hiL_left hs hkd, hh1]
          rcases h2 with ⟨rfl, T1⟩ | ⟨rfl, rfl, hr⟩
          · rcases h1 with ⟨rfl, hM, T2⟩ | ⟨_, _, h⟩
            · exact .inl ⟨rfl, by rw [List.length_append]; omega, T2.app _, T1⟩
            · exact absurd rfl h
          · rw [List.append_nil, List.append_nil]
            refine .inr ⟨rfl, hr, ?_⟩
            rcases h1 with ⟨_, hM, _⟩ | ⟨_, hM, _⟩ <;> omega
        have FIN := Lib.hid fin
        have CM := Lib.hid cm
        have HA := Lib.hid hA
        have ATX := Lib.hid AP.ty
        clear fin cm hA hk hs T AP hh1 sA sB bA bB top hl hlen hN ih hne hd hkd
        go_enter Try.func36, Try.ntmps36
        go_wp2_with (first
          | (go_at_call 34; ((with_reducible refine ca.mono ?_); clear ca; rintro e w1 ⟨rfl, hb⟩; have bw := hb.alloc hb.size (.cells #[.int .i64 k0, .int .i64 v0, .int .i64 x, .int .i64 y, .int .i64 s, .int .i64 hh] 55); have W1 := Wk.begin (b := w1.heap.size) (c := w1.heap.size) HA.out bw hb.size hb.size (by simp) (by simp); have N1 := (Six.new w1 k0 v0 x y s hh 55).toNodeAt))
          | (go_at_call 36; ((with_reducible refine (cr _ _ W1.a).mono ?_); clear cr; rintro e w2 ⟨x1, y1, er, M, rfl, hg, hc⟩; have W2 := W1.go hg; obtain ⟨c0, c1, c2, c3, c4, c5⟩ := Wk.node hg N1; have HC := Lib.hid hc; clear hc hg))
          | (go_at_call 37; ((with_reducible refine (CM.out _ _ (L ++ M) y1 er W2.a (HC.out.imp (fun h => ⟨h.1, h.2.2.2, ATX.out.app _⟩) (fun h => ⟨h.1, h.2.1⟩))).mono ?_); rintro e w3 ⟨n, er', rfl, hee, M2, hg2, hM2, hc2⟩)))
        refine bodyPost_ret (v := .tuple #[.int .i64 x1, .int .i64 n, .int .i64 er']) (by simp [results, Try.results36, go_sem]) rfl ?_
        refine FIN.out _ M M2 n x1 er er' (W2.go hg2).grew hM2 ?_ hc2
        rcases HC.out with ⟨h1, h2, h3, h4⟩ | ⟨h1, h2, h3⟩
        · exact .inl ⟨h1, h2, h3⟩
        · refine .inr ⟨h1, h3, ?_⟩
          rw [hee h1]; decide
end Go.Proofs.Ytmbeaefgakfbnaa
