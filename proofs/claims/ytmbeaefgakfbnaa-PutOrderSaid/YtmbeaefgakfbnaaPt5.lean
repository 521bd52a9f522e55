/- put's with, over the treap of sorted pairs. -/
import Derived.Test.YtmbeaefgakfbnaaPt4
import Derived.Test.YtmbeaefgakfbnaaMixC
import Derived.Test.YtmbeaefgakfbnaaLk4
namespace Go.Proofs.Ytmbeaefgakfbnaa
open Go.RowKit
set_option linter.all false

/-- What with tells: the treap with a key more, or no room. -/
def PutW (w : World) (p : Nat) (F : Nat → Prop) (room st : Int) (L : List It) (k v : Int) (l : List Pr) (e : Ending) (w' : World) : Prop :=
  ∃ (n er : Int) (M : List It), e = .returned (.tuple #[.int .i64 n, .int .i64 er]) ∧ Grew w p F room st (L ++ M) w' ∧
    ((er = 0 ∧ M.length ≤ hi l + 1 ∧ Tree (L ++ M) n (withL l k v)) ∨ (er = 2 ∧ room = ((L ++ M).length : Nat) ∧ M.length ≤ hi l))

theorem PutW.ofMk {w w' : World} {p : Nat} {F : Nat → Prop} {room st : Int} {L : List It} {k v n er : Int} {l l' : List Pr} (m : MkSays w p F room st L l' n er w') (h : l' = withL l k v) :
    PutW w p F room st L k v l (.returned (.tuple #[.int .i64 n, .int .i64 er])) w' := by
  subst h
  obtain ⟨M, hg, hM, hc⟩ := m
  refine ⟨n, er, M, rfl, hg, hc.imp (fun h => ⟨h.1, by omega, h.2⟩) (fun h => ⟨h.1, ?_, by rw [h.2.1]; simp⟩)⟩
  rw [h.2.1, List.append_nil]; exact h.2.2
theorem MkSays.since {w W W' : World} {p : Nat} {F G : Nat → Prop} {room st : Int} {L : List It} {l : List Pr} {n er : Int} (m : MkSays W p G room st L l n er W') (b : Below w.heap.size w W) (hF : ∀ k, G k → F k) : MkSays w p F room st L l n er W' := by
  obtain ⟨M, hg, hM, hc⟩ := m
  exact ⟨M, hg.since b hF, hM, hc⟩
theorem MkSays.grew {w W W' : World} {p : Nat} {F : Nat → Prop} {room st : Int} {L : List It} {b c : Nat} {l : List Pr} {n er : Int} (hW : Wk w W p F room st L b c) (m : MkSays W p (fun k => Plus F w W k ∧ k ≠ b ∧ k ≠ c) room st L l n er W') : MkSays w p F room st L l n er W' := by
  obtain ⟨M, hg, hM, hc⟩ := m
  exact ⟨M, (hW.go hg).grew, hM, hc⟩

theorem lohi_len (l : List Pr) (k : Int) : (loL l k).length + (hiL l k).length ≤ l.length := by
  unfold loL hiL
  induction l with
  | nil => simp
  | cons z l ih =>
    rw [List.filter_cons, List.filter_cons]
    by_cases h1 : z.1 < k
    · rw [if_pos (by simpa using h1), if_neg (by simp; omega)]; simp; omega
    · rw [if_neg (by simpa using h1)]
      by_cases h2 : k < z.1
      · rw [if_pos (by simpa using h2)]; simp; omega
      · rw [if_neg (by simpa using h2)]; simp; omega
theorem withL_len (l : List Pr) (k v : Int) (hs : Srt l) : (withL l k v).length ≤ l.length + 1 := by
  rw [withL_cat hs]
  have := lohi_len l k
  simp; omega
theorem PutW.join {w w' : World} {p : Nat} {F : Nat → Prop} {room st : Int} {L M : List It} {k v n er : Int} {l l' : List Pr} (m : MkSays w p F room st (L ++ M) l' n er w') (h : l' = withL l k v) (hM1 : M.length ≤ hi l) :
    PutW w p F room st L k v l (.returned (.tuple #[.int .i64 n, .int .i64 er])) w' := by
  subst h
  obtain ⟨M2, hg, hM, hc2⟩ := m
  refine ⟨n, er, M ++ M2, rfl, by rw [← List.append_assoc]; exact hg, ?_⟩
  rw [← List.append_assoc]
  rcases hc2 with ⟨rfl, T⟩ | ⟨rfl, rfl, hr⟩
  · exact .inl ⟨rfl, by rw [List.length_append]; omega, T⟩
  · rw [List.append_nil, List.append_nil]; exact .inr ⟨rfl, hr, hM1⟩
theorem Wk.two2 {w W W' : World} {p : Nat} {F : Nat → Prop} {room st : Int} {L' : List It} {b c : Nat} {k v : Int} (m : Grew W p (fun k => Plus F w W k ∧ k ≠ b ∧ k ≠ c) room st L' W') (n : Two W c k v) : W'.cell? ⟨c, 0, none⟩ = some (.int .i64 k) ∧ W'.cell? ⟨c, 1, none⟩ = some (.int .i64 v) := ⟨(Wk.two m n).c0, (Wk.two m n).c1⟩

set_option maxRecDepth 100000 in
set_option maxHeartbeats 3200000 in
theorem with_nil (k v : Int) (w : World) (p : Nat) (F : Nat → Prop) (room st : Int) (L : List It) (hA : Arena w p F room st L) :
    Calls Try.prog 25 #[.pointer (some ⟨p, 0, none⟩), .int .i64 0, .agg #[.int .i64 k, .int .i64 v]] w (PutW w p F room st L k v []) := by
  have ba : ∀ o, Below w.heap.size w (w.alloc o) := fun o => (Below.refl _ _).alloc (Nat.le_refl _) _
  have ca := at_zero (hA.below (ba (.cells #[.int .i64 k, .int .i64 v] 24)))
  have cm := fun W (hb : Below w.heap.size w W) => tmake (x := 0) (y := 0) (k := k) (v := v) (A := []) (B := []) (hA.below hb) (by unfold Srt; simp) (by simp) .nil .nil (by simp)
  have CM := Lib.hid cm
  clear hA cm
  go_enter Try.func25, Try.ntmps25
  go_wp2_with (first
    | (go_at_call 34; ((with_reducible refine ca.mono ?_); clear ca; rintro e w1 ⟨rfl, hb⟩; have T0 := ((Two.new w k v 24).keep hb).past (.cells #[.int .i64 0, .int .i64 0, .int .i64 0, .int .i64 0, .int .i64 0, .int .i64 0] 55); have d0 := T0.c0; have d1 := T0.c1; clear T0; have bw := (below_past (Below.refl _ w) hb).alloc (below_past (Below.refl _ w) hb).size (.cells #[.int .i64 0, .int .i64 0, .int .i64 0, .int .i64 0, .int .i64 0, .int .i64 0] 55)))
    | (go_at_call 23; ((with_reducible refine (CM.out _ bw).mono ?_); rintro e w2 ⟨n, er, rfl, m⟩; have HM := Lib.hid m; clear m)))
  go_ret2
  exact PutW.ofMk (HM.out.since bw (fun k hk => hk)) (by rw [withL_nil]; rfl)

set_option maxRecDepth 100000 in
set_option maxHeartbeats 6400000 in
theorem with_put (p : Nat) (room st k v : Int) (N : Nat) : ∀ (l : List Pr) (w : World) (t : Int) (L : List It) (F : Nat → Prop), l.length ≤ N → Srt l → l.length ≤ 990 → Tree L t l → Arena w p F room st L →
    Calls Try.prog 25 #[.pointer (some ⟨p, 0, none⟩), .int .i64 t, .agg #[.int .i64 k, .int .i64 v]] w (PutW w p F room st L k v l) := by
  induction N with
  | zero =>
    intro l w t L F hN hs hl T hA
    obtain rfl : l = [] := List.length_eq_zero_iff.1 (by omega)
    cases T.apart hs with
    | inl h => obtain ⟨rfl, _⟩ := h; exact with_nil k v w p F room st L hA
    | inr h => obtain ⟨x, y, A, B, q, e, _⟩ := h; simp at e
  | succ N ih =>
    intro l w t L F hN hs hl T hA
    rcases T.apart hs with ⟨rfl, rfl⟩ | ⟨x, y, A, B, q, rfl, AP⟩
    · exact with_nil k v w p F room st L hA
    · obtain ⟨k0, v0⟩ := q
      have hlen : (A ++ (k0, v0) :: B).length = A.length + B.length + 1 := by simp; omega
      rw [hlen] at hN hl
      have ba : ∀ o, Below w.heap.size w (w.alloc o) := fun o => (Below.refl _ _).alloc (Nat.le_refl _) _
      obtain ⟨s, hh, ca⟩ := at_apart (hA.below (ba (.cells #[.int .i64 k, .int .i64 v] 24))) AP (by omega)
      dsimp only at ca
      have hh1 := hi_app hs AP.top
      obtain ⟨sA, sB, bA, bB⟩ := hs.parts
      have top := AP.top
      dsimp only at top bA bB
      have ch := fun W => holds_any k0 v0 x y s hh k W
      by_cases hk : k0 = k
      · subst hk
        have hkk : (k0 == k0) = true := by simp
        rw [hkk] at ch
        have cm := fun W G (hW : Arena W p G room st L) => tmake (x := x) (y := y) (k := k0) (v := v) (A := A) (B := B) hW (Srt.cat sA sB bA bB) top AP.tx AP.ty (by omega)
        have HE := Lib.hid (withL_here hs v)
        have CM := Lib.hid cm
        have HA := Lib.hid hA
        clear cm hA hs T AP hh1 sA sB bA bB top hl hlen hN ih ba hkk
        go_enter Try.func25, Try.ntmps25
        go_wp2_with (first
          | (go_at_call 34; ((with_reducible refine ca.mono ?_); clear ca; rintro e w1 ⟨rfl, hb⟩; have b1 := below_past (Below.refl _ w) hb; have bw := b1.alloc b1.size (.cells #[.int .i64 k0, .int .i64 v0, .int .i64 x, .int .i64 y, .int .i64 s, .int .i64 hh] 55); have W1 := Wk.begin (b := w1.heap.size) (c := w.heap.size) HA.out bw b1.size (Nat.le_refl _) (by simp) (by have := hb.size; simp at this ⊢; omega); have N1 := (Six.new w1 k0 v0 x y s hh 55).toNodeAt; have T1 := ((Two.new w k0 v 24).keep hb).past (.cells #[.int .i64 k0, .int .i64 v0, .int .i64 x, .int .i64 y, .int .i64 s, .int .i64 hh] 55); have d0 := T1.c0; have d1 := T1.c1; clear b1 bw))
          | (go_at_call 28; ((with_reducible refine (ch _).mono ?_); clear ch; rintro e w3 ⟨rfl, hb3⟩; have W2 := W1.below hb3; have N2 := N1.keep hb3; have T2 := T1.keep hb3; obtain ⟨c0, c1, c2, c3, c4, c5⟩ := N2; have d0 := T2.c0; have d1 := T2.c1; have N2 := N1.keep hb3; clear hb3 W1 N1 T1))
          | (go_at_call 23; ((with_reducible refine (CM.out _ _ W2.a).mono ?_); rintro e w4 ⟨n, er, rfl, m⟩; have HM := Lib.hid m; clear m)))
        go_ret2
        exact PutW.ofMk (HM.out.grew W2) HE.out.symm
      · have hkk : (k0 == k) = false := by simpa using hk
        rw [hkk] at ch
        have HK := Lib.hid hk
        clear hk
        have cab := fun W => mixAbove_any k k0 W
        by_cases hab : abv k k0 = true
        · rw [hab] at cab
          have hlen1 : (A ++ (k0, v0) :: B).length ≤ 1000 := by rw [hlen]; omega
          have hlen2 := lohi_len (A ++ (k0, v0) :: B) k
          rw [hlen] at hlen2
          have hlen3 : (loL (A ++ (k0, v0) :: B) k).length + (hiL (A ++ (k0, v0) :: B) k).length + 1 ≤ 1000 := by clear cab ca ch top; omega
          have cr := fun W G (hW : Arena W p G room st L) => parted_any p room st k _ (A ++ (k0, v0) :: B) W t L G (Nat.le_refl _) hs (not_in (q := (k0, v0)) top hab) hlen1 AP.tree hW
          have abw := all_below (q := (k0, v0)) top hab
          have cm := fun W G (M : List It) x1 y1 er (hW : Arena W p G room st M) hc => madeOf_tree (x := x1) (y := y1) (k := k) (v := v) (er := er) (A := loL (A ++ (k0, v0) :: B) k) (B := hiL (A ++ (k0, v0) :: B) k) hW
            (Srt.cat (loL_srt hs k) (hiL_srt hs k) (fun z hz => (loL_mem.1 hz).2) (fun z hz => (hiL_mem.1 hz).2))
            (fun z hz => abw z (by
              rcases List.mem_append.1 hz with hz | hz
              · exact (loL_mem.1 hz).1
              · exact (hiL_mem.1 hz).1)) hlen3 hc
          have HE := Lib.hid (withL_cat hs k v)
          have CM := Lib.hid cm
          have HA := Lib.hid hA
          clear cm hA hs T AP hh1 sA sB bA bB top hl hlen hN ih ba hkk abw hab hlen1 hlen2 hlen3
          go_enter Try.func25, Try.ntmps25
          go_wp2_with (first
            | (go_at_call 34; ((with_reducible refine ca.mono ?_); clear ca; rintro e w1 ⟨rfl, hb⟩; have b1 := below_past (Below.refl _ w) hb; have bw := b1.alloc b1.size (.cells #[.int .i64 k0, .int .i64 v0, .int .i64 x, .int .i64 y, .int .i64 s, .int .i64 hh] 55); have W1 := Wk.begin (b := w1.heap.size) (c := w.heap.size) HA.out bw b1.size (Nat.le_refl _) (by simp) (by have := hb.size; simp at this ⊢; omega); have N1 := (Six.new w1 k0 v0 x y s hh 55).toNodeAt; have T1 := ((Two.new w k v 24).keep hb).past (.cells #[.int .i64 k0, .int .i64 v0, .int .i64 x, .int .i64 y, .int .i64 s, .int .i64 hh] 55); have d0 := T1.c0; have d1 := T1.c1; clear b1 bw))
            | (go_at_call 28; ((with_reducible refine (ch _).mono ?_); clear ch; rintro e w3 ⟨rfl, hb3⟩; have W2 := W1.below hb3; have N2 := N1.keep hb3; have T2 := T1.keep hb3; obtain ⟨c0, c1, c2, c3, c4, c5⟩ := N2; have d0 := T2.c0; have d1 := T2.c1; have N2 := N1.keep hb3; clear hb3 W1 N1 T1))
            | (go_at_call 35; ((with_reducible refine (cab _).mono ?_); rintro e w4 ⟨rfl, rfl⟩))
            | (go_at_call 36; ((with_reducible refine (cr _ _ W2.a).mono ?_); clear cr; rintro e w5 ⟨x1, y1, er, M, rfl, hg, hc⟩; have W3 := W2.go hg; obtain ⟨e0, e1⟩ := Wk.two2 hg T2; have HC := Lib.hid hc; clear hc hg))
            | (go_at_call 37; ((with_reducible refine (CM.out _ _ (L ++ M) x1 y1 er W3.a (HC.out.imp (fun h => ⟨h.1, h.2.2.1, h.2.2.2⟩) (fun h => ⟨h.1, h.2.1⟩))).mono ?_); rintro e w6 ⟨n, er', rfl, hee, m⟩; have HM := Lib.hid m; clear m)))
          go_ret2
          refine PutW.join (HM.out.grew W3) HE.out.symm ?_
          exact HC.out.elim (fun h => by have := h.2.1; omega) (fun h => by have := h.2.2; omega)
        · have hab' : abv k k0 = false := by simpa using hab
          rw [hab'] at cab
          have hq := abv_of_not hab (fun e => HK.out e.symm)
          by_cases hd : k < k0
          · have hd' : decide (k < k0) = true := decide_eq_true hd
            have cr := fun W G (hW : Arena W p G room st L) => ih A W x L G (by omega) sA (by omega) AP.tx hW
            have cm := fun W G (M : List It) x1 er (hW : Arena W p G room st M) hc => madeOf_tree (x := x1) (y := y) (k := k0) (v := v0) (er := er) (A := withL A k v) (B := B) hW
              (by have := withL_is_srt (A ++ (k0, v0) :: B) k v hs; rw [withL_left hs v hd] at this; exact this)
              (fun z hz => by
                rcases List.mem_append.1 hz with hz | hz
                · rcases withL_mem sA hz with rfl | hz
                  · exact hq
                  · exact top z (List.mem_append_left _ hz)
                · exact top z (List.mem_append_right _ hz)) (by have := withL_len A k v sA; omega) hc
            have HE := Lib.hid (withL_left hs v hd)
            have ATX := Lib.hid AP.ty
            have CM := Lib.hid cm
            have HA := Lib.hid hA
            have HH := Lib.hid hh1
            clear cm hA hs T AP hh1 sA sB bA bB top hl hlen hN ih ba hkk hab hab' hq hd
            go_enter Try.func25, Try.ntmps25
            go_wp2_with (first
              | (go_at_call 34; ((with_reducible refine ca.mono ?_); clear ca; rintro e w1 ⟨rfl, hb⟩; have b1 := below_past (Below.refl _ w) hb; have bw := b1.alloc b1.size (.cells #[.int .i64 k0, .int .i64 v0, .int .i64 x, .int .i64 y, .int .i64 s, .int .i64 hh] 55); have W1 := Wk.begin (b := w1.heap.size) (c := w.heap.size) HA.out bw b1.size (Nat.le_refl _) (by simp) (by have := hb.size; simp at this ⊢; omega); have N1 := (Six.new w1 k0 v0 x y s hh 55).toNodeAt; have T1 := ((Two.new w k v 24).keep hb).past (.cells #[.int .i64 k0, .int .i64 v0, .int .i64 x, .int .i64 y, .int .i64 s, .int .i64 hh] 55); have d0 := T1.c0; have d1 := T1.c1; clear b1 bw))
              | (go_at_call 28; ((with_reducible refine (ch _).mono ?_); clear ch; rintro e w3 ⟨rfl, hb3⟩; have W2 := W1.below hb3; have N2 := N1.keep hb3; have T2 := T1.keep hb3; obtain ⟨c0, c1, c2, c3, c4, c5⟩ := N2; have d0 := T2.c0; have d1 := T2.c1; have N2 := N1.keep hb3; clear hb3 W1 N1 T1))
              | (go_at_call 35; ((with_reducible refine (cab _).mono ?_); rintro e w4 ⟨rfl, rfl⟩))
              | (go_at_call 25; ((with_reducible refine (cr _ _ W2.a).mono ?_); clear cr; rintro e w5 ⟨x1, er, M, rfl, hg, hc⟩; have W3 := W2.go hg; obtain ⟨e0, e1, e2, e3, e4, e5⟩ := Wk.node hg N2; have HC := Lib.hid hc; clear hc hg))
              | (go_at_call 37; ((with_reducible refine (CM.out _ _ (L ++ M) x1 er W3.a (HC.out.imp (fun h => ⟨h.1, h.2.2, ATX.out.app _⟩) (fun h => ⟨h.1, h.2.1⟩))).mono ?_); rintro e w6 ⟨n, er', rfl, hee, m⟩; have HM := Lib.hid m; clear m)))
            go_ret2
            refine PutW.join (HM.out.grew W3) HE.out.symm ?_
            rw [HH.out]
            exact HC.out.elim (fun h => by have := h.2.1; omega) (fun h => by have := h.2.2; omega)
          · have hd' : decide (k < k0) = false := decide_eq_false hd
            have hdk : k0 < k := by have := HK.out; omega
            have cr := fun W G (hW : Arena W p G room st L) => ih B W y L G (by omega) sB (by omega) AP.ty hW
            have cm := fun W G (M : List It) x1 er (hW : Arena W p G room st M) hc => madeOf_tree (x := x) (y := x1) (k := k0) (v := v0) (er := er) (A := A) (B := withL B k v) hW
              (by have := withL_is_srt (A ++ (k0, v0) :: B) k v hs; rw [withL_right hs v hdk] at this; exact this)
              (fun z hz => by
                rcases List.mem_append.1 hz with hz | hz
                · exact top z (List.mem_append_left _ hz)
                · rcases withL_mem sB hz with rfl | hz
                  · exact hq
                  · exact top z (List.mem_append_right _ hz)) (by have := withL_len B k v sB; omega) hc
            have HE := Lib.hid (withL_right hs v hdk)
            have ATX := Lib.hid AP.tx
            have CM := Lib.hid cm
            have HA := Lib.hid hA
            have HH := Lib.hid hh1
            clear cm hA hs T AP hh1 sA sB bA bB top hl hlen hN ih ba hkk hab hab' hq hd hdk
            go_enter Try.func25, Try.ntmps25
            go_wp2_with (first
              | (go_at_call 34; ((with_reducible refine ca.mono ?_); clear ca; rintro e w1 ⟨rfl, hb⟩; have b1 := below_past (Below.refl _ w) hb; have bw := b1.alloc b1.size (.cells #[.int .i64 k0, .int .i64 v0, .int .i64 x, .int .i64 y, .int .i64 s, .int .i64 hh] 55); have W1 := Wk.begin (b := w1.heap.size) (c := w.heap.size) HA.out bw b1.size (Nat.le_refl _) (by simp) (by have := hb.size; simp at this ⊢; omega); have N1 := (Six.new w1 k0 v0 x y s hh 55).toNodeAt; have T1 := ((Two.new w k v 24).keep hb).past (.cells #[.int .i64 k0, .int .i64 v0, .int .i64 x, .int .i64 y, .int .i64 s, .int .i64 hh] 55); have d0 := T1.c0; have d1 := T1.c1; clear b1 bw))
              | (go_at_call 28; ((with_reducible refine (ch _).mono ?_); clear ch; rintro e w3 ⟨rfl, hb3⟩; have W2 := W1.below hb3; have N2 := N1.keep hb3; have T2 := T1.keep hb3; obtain ⟨c0, c1, c2, c3, c4, c5⟩ := N2; have d0 := T2.c0; have d1 := T2.c1; have N2 := N1.keep hb3; clear hb3 W1 N1 T1))
              | (go_at_call 35; ((with_reducible refine (cab _).mono ?_); rintro e w4 ⟨rfl, rfl⟩))
              | (go_at_call 25; ((with_reducible refine (cr _ _ W2.a).mono ?_); clear cr; rintro e w5 ⟨x1, er, M, rfl, hg, hc⟩; have W3 := W2.go hg; obtain ⟨e0, e1, e2, e3, e4, e5⟩ := Wk.node hg N2; have HC := Lib.hid hc; clear hc hg))
              | (go_at_call 37; ((with_reducible refine (CM.out _ _ (L ++ M) x1 er W3.a (HC.out.imp (fun h => ⟨h.1, ATX.out.app _, h.2.2⟩) (fun h => ⟨h.1, h.2.1⟩))).mono ?_); rintro e w6 ⟨n, er', rfl, hee, m⟩; have HM := Lib.hid m; clear m)))
            go_ret2
            refine PutW.join (HM.out.grew W3) HE.out.symm ?_
            rw [HH.out]
            exact HC.out.elim (fun h => by have := h.2.1; omega) (fun h => by have := h.2.2; omega)
end Go.Proofs.Ytmbeaefgakfbnaa
