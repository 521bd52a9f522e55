/- Contracts of package cut over the treap of sorted pairs: joined, without; Cut. -/
import Derived.Test.YtbmlpdkbiipcmaaCt1
import Derived.Test.YtbmlpdkbiipcmaaCtM
namespace Go.Proofs.Ytbmlpdkbiipcmaa
open Go.RowKit
set_option linter.all false

/-- What is made is the treap of these pairs, of at most so many records; or there was no room, with less than that. -/
def CutQ (L : List It) (room : Int) (bnd : Nat) (l : List Pr) (M : List It) (n er : Int) : Prop :=
  (er = 0 ∧ M.length ≤ bnd ∧ Tree (L ++ M) n l) ∨ (er = 2 ∧ room = ((L ++ M).length : Nat) ∧ M.length + 1 ≤ bnd)

section
variable {w W W' : World} {p : Nat} {F : Nat → Prop} {room st : Int} {L : List It} {t : Int} {l : List Pr}
theorem CutQ.mono {b b' : Nat} {M : List It} {n er : Int} (h : CutQ L room b l M n er) (hb : b ≤ b') : CutQ L room b' l M n er :=
  h.imp (fun h => ⟨h.1, Nat.le_trans h.2.1 hb, h.2.2⟩) (fun h => ⟨h.1, h.2.1, Nat.le_trans h.2.2 hb⟩)
theorem CutQ.turn {b : Nat} {l' : List Pr} {M : List It} {n er : Int} (h : CutQ L room b l M n er) (e : l = l') : CutQ L room b l' M n er := e ▸ h

theorem at_apart2 (hA : Arena w p F room st L) {x y : Int} {A B : List Pr} {q : Pr} (h : Apart L t x y A B q) (hl : A.length + B.length + 1 ≤ 1000) :
    ∃ s hh : Int, ∀ W, Below w.heap.size w W → Calls Try.prog 51 #[.pointer (some ⟨p, 0, none⟩), .int .i64 t] W fun e w' => e = .returned (.tuple #[.agg #[.int .i64 q.1, .int .i64 q.2, .int .i64 x, .int .i64 y, .int .i64 s, .int .i64 hh], .bool true]) ∧ Below W.heap.size W w' := by
  obtain ⟨n0, n1, n2, n3, n4, n5, n6⟩ := node_says h.item
  have gx := (h.tx.hung (by omega)).1
  have gy := (h.ty.hung (by omega)).1
  refine ⟨valL L t 4, valL L t 5, fun V hv => at_core (some ⟨p, 0, none⟩) t q.1 q.2 x y _ _ true V (fun U hu => ?_) (fun U hu => counted_ok ((hA.below hv).below hu) t x gx.ok (.inl h.hx)) (fun U hu => counted_ok ((hA.below hv).below hu) t y gy.ok (.inl h.hy))⟩
  have := get_yes t U p F room st L ((hA.below hv).below hu) n0
  rw [n1, n2, n3, n4] at this
  exact this
theorem Tree.nil_zero (T : Tree L t []) : t = 0 := by
  rcases T.apart Srt.nil with ⟨h, _⟩ | ⟨_, _, A, B, q, e, _⟩
  · exact h
  · simp at e
/-- at of a treap, whatever it is. -/
theorem at_tree (hA : Arena w p F room st L) (T : Tree L t l) (hs : Srt l) (hl : l.length ≤ 1000) :
    ∃ (k v x y s h : Int) (b : Bool), ∀ W, Below w.heap.size w W → Calls Try.prog 51 #[.pointer (some ⟨p, 0, none⟩), .int .i64 t] W fun e w' =>
      e = .returned (.tuple #[.agg #[.int .i64 k, .int .i64 v, .int .i64 x, .int .i64 y, .int .i64 s, .int .i64 h], .bool b]) ∧ Below W.heap.size W w' := by
  rcases T.apart hs with ⟨rfl, rfl⟩ | ⟨x, y, A, B, q, rfl, AP⟩
  · exact ⟨0, 0, 0, 0, 0, 0, false, fun W hb => at_zero (hA.below hb)⟩
  · have hlen : (A ++ q :: B).length = A.length + B.length + 1 := by simp; omega
    obtain ⟨s, hh, c⟩ := at_apart2 hA AP (by omega)
    exact ⟨q.1, q.2, x, y, s, hh, true, c⟩
theorem make_q {M : List It} {b : Nat} (hA : Arena w p F room st (L ++ M)) {x y k v er : Int} {A B : List Pr} (hs : Srt (A ++ (k, v) :: B)) (h : ∀ z ∈ A ++ B, abv k z.1 = true) (hl : A.length + B.length + 1 ≤ 1000)
    (hc : (er = 0 ∧ M.length ≤ b ∧ Tree (L ++ M) x A ∧ Tree (L ++ M) y B) ∨ (er = 2 ∧ room = ((L ++ M).length : Nat) ∧ M.length + 1 ≤ b)) :
    Calls Try.prog 56 #[.pointer (some ⟨p, 0, none⟩), .agg #[.int .i64 k, .int .i64 v], .int .i64 x, .int .i64 y, .int .i64 er] w (Told w p F room st (L ++ M) (fun M2 n er' => CutQ L room (b + 1) (A ++ (k, v) :: B) (M ++ M2) n er')) := by
  refine (madeOf_tree hA hs h hl (hc.imp (fun h => ⟨h.1, h.2.2.1, h.2.2.2⟩) (fun h => ⟨h.1, h.2.1⟩))).mono ?_
  rintro e w' ⟨n, er', rfl, hee, M2, hg, hM2, hcc⟩
  refine ⟨n, er', M2, rfl, hg, ?_⟩
  show CutQ L room (b + 1) (A ++ (k, v) :: B) (M ++ M2) n er'
  unfold CutQ
  rw [← List.append_assoc]
  rcases hcc with ⟨rfl, T⟩ | ⟨rfl, rfl, hr⟩
  · rcases hc with ⟨_, hM, _⟩ | ⟨h2, _⟩
    · exact .inl ⟨rfl, by rw [List.length_append]; omega, T⟩
    · exact absurd (hee h2) (by decide)
  · rw [List.append_nil, List.append_nil]
    refine .inr ⟨rfl, hr, ?_⟩
    rcases hc with ⟨_, hM, _⟩ | ⟨_, _, hM⟩ <;> omega
end

theorem joined_tree (p : Nat) (room st : Int) (N : Nat) : ∀ (A B : List Pr) (w : World) (l r : Int) (L : List It) (F : Nat → Prop), A.length + B.length ≤ N → Srt (A ++ B) → A.length + B.length ≤ 1000 → Tree L l A → Tree L r B → Arena w p F room st L →
    Calls Try.prog 46 #[.pointer (some ⟨p, 0, none⟩), .int .i64 l, .int .i64 r] w (Told w p F room st L (CutQ L room (hi A + hi B) (A ++ B))) := by
  induction N with
  | zero =>
    intro A B w l r L F hN hs hl TA TB hA
    obtain rfl : A = [] := List.length_eq_zero_iff.1 (by omega)
    obtain rfl : B = [] := List.length_eq_zero_iff.1 (by omega)
    have e1 := TA.nil_zero
    have e2 := TB.nil_zero
    subst e1; subst e2
    refine (joined_l (fun W hb => at_zero (hA.below hb)) (fun W hb => at_zero (hA.below hb))).mono ?_
    rintro e w' ⟨rfl, hb⟩
    exact Told.none hA hb (.inl ⟨rfl, Nat.zero_le _, .nil⟩)
  | succ N ih =>
    intro A B w l r L F hN hs hl TA TB hA
    obtain ⟨sA, sB, hAB⟩ := hs.two
    rcases TA.apart sA with ⟨rfl, rfl⟩ | ⟨x0, y0, A1, A2, ⟨k0, v0⟩, rfl, PA⟩
    · obtain ⟨k, v, x, y, s, h, b, cb⟩ := at_tree hA TB sB (by simpa using hl)
      refine (joined_l (fun W hb => at_zero (hA.below hb)) cb).mono ?_
      rintro e w' ⟨rfl, hb⟩
      exact Told.none hA hb (.inl ⟨rfl, Nat.zero_le _, by rw [List.append_nil]; exact TB⟩)
    · have hla : (A1 ++ (k0, v0) :: A2).length = A1.length + A2.length + 1 := by simp; omega
      rw [hla] at hN hl
      rcases TB.apart sB with ⟨rfl, rfl⟩ | ⟨x1, y1, B1, B2, ⟨k1, v1⟩, rfl, PB⟩
      · obtain ⟨s0, h0, ca⟩ := at_apart2 hA PA (by omega)
        refine (joined_r ca (fun W hb => at_zero (hA.below hb))).mono ?_
        rintro e w' ⟨rfl, hb⟩
        exact Told.none hA hb (.inl ⟨rfl, Nat.zero_le _, by rw [List.append_nil, List.append_nil]; exact TA⟩)
      · have hlb : (B1 ++ (k1, v1) :: B2).length = B1.length + B2.length + 1 := by simp; omega
        rw [hlb] at hN hl
        obtain ⟨s0, h0, ca⟩ := at_apart2 hA PA (by omega)
        obtain ⟨s1, h1, cb⟩ := at_apart2 hA PB (by omega)
        dsimp only at ca cb
        have tA := PA.top
        have tB := PB.top
        have iA := hi_app sA tA
        have iB := hi_app sB tB
        dsimp only at tA tB
        have hne : k0 ≠ k1 := by have := hAB (k0, v0) (by simp) (k1, v1) (by simp); dsimp only at this; omega
        by_cases hab : abv k0 k1 = true
        · have cab := fun W => mixAbove_any k0 k1 W
          rw [hab] at cab
          have hs2 : Srt (A1 ++ (k0, v0) :: (A2 ++ (B1 ++ (k1, v1) :: B2))) := by simpa using hs
          have sA2 := hs2.parts.2.1
          have htop : ∀ z ∈ A1 ++ (A2 ++ (B1 ++ (k1, v1) :: B2)), abv k0 z.1 = true := by
            intro z hz
            rw [← List.append_assoc] at hz
            rcases List.mem_append.1 hz with hz | hz
            · exact tA z hz
            · exact all_below (q := (k1, v1)) tB hab z hz
          refine (joined_left (Q1 := CutQ L room (hi A2 + hi (B1 ++ (k1, v1) :: B2)) (A2 ++ (B1 ++ (k1, v1) :: B2)))
            (Q2 := fun M M2 n er => CutQ L room (hi A2 + hi (B1 ++ (k1, v1) :: B2) + 1) (A1 ++ (k0, v0) :: (A2 ++ (B1 ++ (k1, v1) :: B2))) (M ++ M2) n er) hA ca cb cab
            (fun W G hW => ih A2 (B1 ++ (k1, v1) :: B2) W y0 r L G (by rw [hlb]; omega) sA2 (by rw [hlb]; omega) PA.ty TB hW)
            (fun W G M z er hW hq => make_q hW hs2 htop (by simp; omega) (hq.imp (fun h => ⟨h.1, h.2.1, PA.tx.app M, h.2.2⟩) id))
            (fun M M2 n er h => h)).mono ?_
          rintro e w' hT
          exact hT.mono (fun M n er h => (h.mono (by omega)).turn (by simp))
        · have hab' : abv k0 k1 = false := by simpa using hab
          have hba := abv_of_not hab hne
          have cab := fun W => mixAbove_any k0 k1 W
          rw [hab'] at cab
          have hs2 : Srt ((A1 ++ (k0, v0) :: A2 ++ B1) ++ (k1, v1) :: B2) := by simpa using hs
          have sB1 := hs2.parts.1
          have htop : ∀ z ∈ (A1 ++ (k0, v0) :: A2 ++ B1) ++ B2, abv k1 z.1 = true := by
            intro z hz
            rw [List.append_assoc] at hz
            rcases List.mem_append.1 hz with hz | hz
            · exact all_below (q := (k0, v0)) tA hba z hz
            · exact tB z hz
          refine (joined_right (Q1 := CutQ L room (hi (A1 ++ (k0, v0) :: A2) + hi B1) (A1 ++ (k0, v0) :: A2 ++ B1))
            (Q2 := fun M M2 n er => CutQ L room (hi (A1 ++ (k0, v0) :: A2) + hi B1 + 1) ((A1 ++ (k0, v0) :: A2 ++ B1) ++ (k1, v1) :: B2) (M ++ M2) n er) hA ca cb cab
            (fun W G hW => ih (A1 ++ (k0, v0) :: A2) B1 W l x1 L G (by rw [hla]; omega) sB1 (by rw [hla]; omega) TA PB.tx hW)
            (fun W G M z er hW hq => make_q hW hs2 htop (by simp; omega) (hq.imp (fun h => ⟨h.1, h.2.1, h.2.2, PB.ty.app M⟩) id))
            (fun M M2 n er h => h)).mono ?_
          rintro e w' hT
          exact hT.mono (fun M n er h => (h.mono (by omega)).turn (by simp))

theorem without_tree (p : Nat) (room st k : Int) (N : Nat) : ∀ (l : List Pr) (w : World) (t : Int) (L : List It) (F : Nat → Prop), l.length ≤ N → Srt l → l.length ≤ 1000 → Tree L t l → Arena w p F room st L →
    Calls Try.prog 43 #[.pointer (some ⟨p, 0, none⟩), .int .i64 t, .int .i64 k] w (Told w p F room st L (CutQ L room (2 * hi l) (cutL l k))) := by
  have zero : ∀ (w : World) (L : List It) (F : Nat → Prop), Arena w p F room st L →
      Calls Try.prog 43 #[.pointer (some ⟨p, 0, none⟩), .int .i64 0, .int .i64 k] w (Told w p F room st L (CutQ L room (2 * hi []) (cutL [] k))) := fun w L F hA =>
    without_zero hA (fun W hb => at_zero (hA.below hb)) (fun W G hW => (joined_tree p room st 0 [] [] W 0 0 L G (by simp) Srt.nil (by simp) .nil .nil hW).mono fun e w' h => h.mono (fun M n er h => h.mono (by omega)))
  induction N with
  | zero =>
    intro l w t L F hN hs hl T hA
    obtain rfl : l = [] := List.length_eq_zero_iff.1 (by omega)
    have e1 := T.nil_zero
    subst e1
    exact zero w L F hA
  | succ N ih =>
    intro l w t L F hN hs hl T hA
    rcases T.apart hs with ⟨rfl, rfl⟩ | ⟨x, y, A, B, ⟨k0, v0⟩, rfl, AP⟩
    · exact zero w L F hA
    · have hlen : (A ++ (k0, v0) :: B).length = A.length + B.length + 1 := by simp; omega
      rw [hlen] at hN hl
      obtain ⟨s, hh, ca⟩ := at_apart2 hA AP hl
      have hh1 := hi_app hs AP.top
      obtain ⟨sA, sB, bA, bB⟩ := hs.parts
      have top := AP.top
      dsimp only at top bA bB ca
      rcases Int.lt_trichotomy k k0 with hk | hk | hk
      · have hc := cutL_left (q := (k0, v0)) hs hk
        have hs2 : Srt (cutL A k ++ (k0, v0) :: B) := hc ▸ cutL_srt hs k
        refine (without_left (Q1 := CutQ L room (2 * hi A) (cutL A k)) (Q2 := fun M M2 n er => CutQ L room (2 * hi A + 1) (cutL A k ++ (k0, v0) :: B) (M ++ M2) n er) hA ca hk
          (fun W G hW => ih A W x L G (by omega) sA (by omega) AP.tx hW)
          (fun W G M z er hW hq => make_q hW hs2 (fun z hz => top z (by
            rcases List.mem_append.1 hz with hz | hz
            · exact List.mem_append_left _ (cutL_mem.1 hz).1
            · exact List.mem_append_right _ hz)) (by have := cutL_len A k; omega) (hq.imp (fun h => ⟨h.1, h.2.1, h.2.2, AP.ty.app M⟩) id))
          (fun M M2 n er h => h)).mono ?_
        rintro e w' hT
        exact hT.mono (fun M n er h => (h.mono (by omega)).turn hc.symm)
      · subst hk
        have hc := cutL_here (q := (k, v0)) hs
        have sAB : Srt (A ++ B) := hc ▸ cutL_srt hs k
        refine (without_here hA ca rfl (fun W G hW => joined_tree p room st _ A B W x y L G (Nat.le_refl _) sAB (by omega) AP.tx AP.ty hW)).mono ?_
        rintro e w' hT
        exact hT.mono (fun M n er h => (h.mono (by omega)).turn hc.symm)
      · have hc := cutL_right (q := (k0, v0)) hs hk
        have hs2 : Srt (A ++ (k0, v0) :: cutL B k) := hc ▸ cutL_srt hs k
        refine (without_right (Q1 := CutQ L room (2 * hi B) (cutL B k)) (Q2 := fun M M2 n er => CutQ L room (2 * hi B + 1) (A ++ (k0, v0) :: cutL B k) (M ++ M2) n er) hA ca hk
          (fun W G hW => ih B W y L G (by omega) sB (by omega) AP.ty hW)
          (fun W G M z er hW hq => make_q hW hs2 (fun z hz => top z (by
            rcases List.mem_append.1 hz with hz | hz
            · exact List.mem_append_left _ hz
            · exact List.mem_append_right _ (cutL_mem.1 hz).1)) (by have := cutL_len B k; omega) (hq.imp (fun h => ⟨h.1, h.2.1, AP.tx.app M, h.2.2⟩) id))
          (fun M M2 n er h => h)).mono ?_
        rintro e w' hT
        exact hT.mono (fun M n er h => (h.mono (by omega)).turn hc.symm)

/-! ### Cut -/

section
variable {w w0 : World} {p : Nat} {F : Nat → Prop} {room st : Int} {L : List It} {t k : Int} {l : List Pr}
theorem cut_arg (q : Option Addr) (t k : Int) (w : World)
    (ct : ∀ W, Below w.heap.size w W → Calls Try.prog 32 #[.pointer q, .int .i64 t] W fun e w' => e = .returned (.bool false) ∧ Below W.heap.size W w') :
    Calls Try.prog 24 #[.pointer q, .int .i64 t, .int .i64 k] w fun e w' => e = .returned (.tuple #[.int .i64 0, .int .i64 0, .bool false, .int .i64 1]) ∧ Below w.heap.size w w' := by
  go_enter Try.func24, Try.ntmps24
  go_wp2_with (go_at_call 32; ((with_reducible refine (ct _ (Below.refl _ _)).mono ?_); clear ct; rintro e w1 ⟨rfl, hb⟩))
  refine bodyPost_ret (v := .tuple #[.int .i64 0, .int .i64 0, .bool false, .int .i64 1]) (by simp [results, Try.results24, go_sem]) rfl ?_
  exact ⟨rfl, hb⟩
theorem cut_nil (t k : Int) (w : World) :
    Calls Try.prog 24 #[.pointer none, .int .i64 t, .int .i64 k] w fun e w' => e = .returned (.tuple #[.int .i64 0, .int .i64 0, .bool false, .int .i64 1]) ∧ Below w.heap.size w w' :=
  cut_arg none t k w (fun W _ => isTreap_nil W t)
theorem cut_no (hA : Arena w p F room st L) (t k : Int) (ht : ¬ HungOk L t) :
    Calls Try.prog 24 #[.pointer (some ⟨p, 0, none⟩), .int .i64 t, .int .i64 k] w fun e w' => e = .returned (.tuple #[.int .i64 0, .int .i64 0, .bool false, .int .i64 1]) ∧ Below w.heap.size w w' :=
  cut_arg _ t k w (fun W hb => isTreap_is (hA.below hb) t false ⟨fun h => Bool.noConfusion h, fun h => absurd h ht⟩)
theorem cut_lacks (q : Option Addr) (t k v0 : Int) (w : World)
    (ct : ∀ W, Below w.heap.size w W → Calls Try.prog 32 #[.pointer q, .int .i64 t] W fun e w' => e = .returned (.bool true) ∧ Below W.heap.size W w')
    (cg : ∀ W, Below w.heap.size w W → Calls Try.prog 42 #[.pointer q, .int .i64 t, .int .i64 k] W fun e w' => e = .returned (.tuple #[.int .i64 v0, .bool false]) ∧ Below W.heap.size W w') :
    Calls Try.prog 24 #[.pointer q, .int .i64 t, .int .i64 k] w fun e w' => e = .returned (.tuple #[.int .i64 t, .int .i64 0, .bool false, .int .i64 0]) ∧ Below w.heap.size w w' := by
  go_enter Try.func24, Try.ntmps24
  go_wp2_with (first
    | (go_at_call 32; ((with_reducible refine (ct _ (Below.refl _ _)).mono ?_); clear ct; rintro e w1 ⟨rfl, hb⟩))
    | (go_at_call 42; ((with_reducible refine (cg _ hb).mono ?_); clear cg; rintro e w2 ⟨rfl, hb2⟩)))
  refine bodyPost_ret (v := .tuple #[.int .i64 t, .int .i64 0, .bool false, .int .i64 0]) (by simp [results, Try.results24, go_sem]) rfl ?_
  exact ⟨rfl, hb.trans (hb2.mono hb.size)⟩
/-- What Cut tells of a key that is there. -/
def CutTold (w : World) (p : Nat) (F : Nat → Prop) (room st : Int) (L : List It) (old : Int) (Q : List It → Int → Int → Prop) (e : Ending) (w' : World) : Prop :=
  ∃ (n er : Int) (M : List It), Grew w p F room st (L ++ M) w' ∧ Q M n er ∧ ((er = 0 ∧ e = .returned (.tuple #[.int .i64 n, .int .i64 old, .bool true, .int .i64 0])) ∨ (er ≠ 0 ∧ e = .returned (.tuple #[.int .i64 0, .int .i64 0, .bool false, .int .i64 er])))
theorem cut_goes {old : Int} {Q : List It → Int → Int → Prop} (hA : Arena w p F room st L)
    (ct : ∀ W, Below w.heap.size w W → Calls Try.prog 32 #[.pointer (some ⟨p, 0, none⟩), .int .i64 t] W fun e w' => e = .returned (.bool true) ∧ Below W.heap.size W w')
    (cg : ∀ W, Below w.heap.size w W → Calls Try.prog 42 #[.pointer (some ⟨p, 0, none⟩), .int .i64 t, .int .i64 k] W fun e w' => e = .returned (.tuple #[.int .i64 old, .bool true]) ∧ Below W.heap.size W w')
    (cw : ∀ W, Arena W p F room st L → Calls Try.prog 43 #[.pointer (some ⟨p, 0, none⟩), .int .i64 t, .int .i64 k] W (Told W p F room st L Q)) :
    Calls Try.prog 24 #[.pointer (some ⟨p, 0, none⟩), .int .i64 t, .int .i64 k] w (CutTold w p F room st L old Q) := by
  have HA := Lib.hid hA
  clear hA
  go_enter Try.func24, Try.ntmps24
  go_wp2_with (first
    | (go_at_call 32; ((with_reducible refine (ct _ (Below.refl _ _)).mono ?_); clear ct; rintro e w1 ⟨rfl, hb⟩))
    | (go_at_call 42; ((with_reducible refine (cg _ hb).mono ?_); clear cg; rintro e w2 ⟨rfl, hb2⟩; have hb3 := hb.trans (hb2.mono hb.size); clear hb hb2)))
  refine (cw _ (HA.out.below hb3)).mono ?_
  clear cw
  rintro e w3 hT
  obtain ⟨n, er, M, rfl, hg, hq⟩ := hT
  have HG := Lib.hid (hg.since hb3 (fun k hk => hk))
  have HQ := Lib.hid hq
  clear hg hq
  by_cases he : er = 0
  · subst he
    go_wp2_with (fail)
    refine bodyPost_ret (v := .tuple #[.int .i64 n, .int .i64 old, .bool true, .int .i64 0]) (by simp [results, Try.results24, go_sem]) rfl ?_
    exact ⟨n, 0, M, HG.out, HQ.out, .inl ⟨rfl, rfl⟩⟩
  · have h0 : (er != 0) = true := by simpa using he
    have HE := Lib.hid he
    clear he
    go_wp2_with (fail)
    refine bodyPost_ret (v := .tuple #[.int .i64 0, .int .i64 0, .bool false, .int .i64 er]) (by simp [results, Try.results24, go_sem]) rfl ?_
    exact ⟨n, er, M, HG.out, HQ.out, .inr ⟨HE.out, rfl⟩⟩

/-- Cut of a treap: a key that is not there; one that is. -/
theorem cut_none (hA : Arena w p F room st L) (T : Tree L t l) (hs : Srt l) (hl : l.length ≤ 990) (hn : (findL l k).isSome = false) :
    Calls Try.prog 24 #[.pointer (some ⟨p, 0, none⟩), .int .i64 t, .int .i64 k] w fun e w' => e = .returned (.tuple #[.int .i64 t, .int .i64 0, .bool false, .int .i64 0]) ∧ Below w.heap.size w w' :=
  cut_lacks _ t k 0 w (fun W hb => isTreap_is (hA.below hb) t true ⟨fun _ => (T.hung (by omega)).1.ok, fun _ => rfl⟩)
    (fun W hb => lget_any t k W (Gets.ofArena (hA.below hb)) 0 false (by rw [get_tree T k hs]; cases he : findL l k with | none => rfl | some q => rw [he] at hn; cases hn) (by rw [get_tree T k hs, Option.isSome_map]; exact hn))
theorem cut_some (hA : Arena w p F room st L) (T : Tree L t l) (hs : Srt l) (hl : l.length ≤ 990) {v : Int} (hf : findL l k = some (k, v)) :
    Calls Try.prog 24 #[.pointer (some ⟨p, 0, none⟩), .int .i64 t, .int .i64 k] w (CutTold w p F room st L v (CutQ L room (2 * hi l) (cutL l k))) :=
  cut_goes hA (fun W hb => isTreap_is (hA.below hb) t true ⟨fun _ => (T.hung (by omega)).1.ok, fun _ => rfl⟩)
    (fun W hb => lget_any t k W (Gets.ofArena (hA.below hb)) v true (by rw [get_tree T k hs, hf]; rfl) (by rw [get_tree T k hs, hf]; rfl))
    (fun W hW => without_tree p room st k _ l W t L _ (Nat.le_refl _) hs (by omega) T hW)

/-- Where there is room, in an arena that a law holds. -/
theorem cut_ok (h : Held w0 w p room st L) (T : Tree L t l) (hs : Srt l) (hl : l.length ≤ 990) (hr : ((L.length + 2 * hi l : Nat) : Int) ≤ room) {v : Int} (hf : findL l k = some (k, v)) :
    Calls Try.prog 24 #[.pointer (some ⟨p, 0, none⟩), .int .i64 t, .int .i64 k] w fun e w' =>
      ∃ (n : Int) (M : List It), e = .returned (.tuple #[.int .i64 n, .int .i64 v, .bool true, .int .i64 0]) ∧ Held w0 w' p room st (L ++ M) ∧ M.length ≤ 2 * hi l ∧ Tree (L ++ M) n (cutL l k) := by
  refine (cut_some h.a T hs hl hf).mono ?_
  rintro e w' ⟨n, er, M, hg, hq, ⟨rfl, rfl⟩ | ⟨he, rfl⟩⟩
  · rcases hq with ⟨_, hM, hT⟩ | ⟨h2, _⟩
    · exact ⟨n, M, rfl, h.grew hg (fun _ hk => hk), hM, hT⟩
    · cases h2
  · exfalso
    rcases hq with ⟨h2, _⟩ | ⟨_, hr2, hM⟩
    · exact he h2
    · rw [List.length_append] at hr2; omega
end
end Go.Proofs.Ytbmlpdkbiipcmaa
