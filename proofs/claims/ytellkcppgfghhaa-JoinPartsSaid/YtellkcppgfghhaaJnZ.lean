/- Two, with what it tells where there is no room: nothing. -/
import Derived.Test.YtellkcppgfghhaaJnW
namespace Go.Proofs.Ytellkcppgfghhaa
open Go.RowKit
set_option linter.all false

section
variable {w w0 W W' : World} {p : Nat} {F : Nat → Prop} {room st : Int} {L : List It} {t l r : Int}
theorem tmake_z (hA : Arena w p F room st L) {x y k v : Int} {A B : List Pr} (hs : Srt (A ++ (k, v) :: B)) (h : ∀ z ∈ A ++ B, abv k z.1 = true) (tx : Tree L x A) (ty : Tree L y B) (hl : A.length + B.length + 1 ≤ 1000) :
    Calls Try.prog 31 #[.pointer (some ⟨p, 0, none⟩), .agg #[.int .i64 k, .int .i64 v], .int .i64 x, .int .i64 y] w fun e w' => ∃ n er, e = .returned (.tuple #[.int .i64 n, .int .i64 er]) ∧ MkSays w p F room st L (A ++ (k, v) :: B) n er w' ∧ (er ≠ 0 → n = 0) := by
  obtain ⟨g1, x0, x1⟩ := tx.hung (by omega)
  obtain ⟨g2, y0, y1⟩ := ty.hung (by omega)
  have hA1 := hi_le _ A (Nat.le_refl _)
  have hB1 := hi_le _ B (Nat.le_refl _)
  by_cases hr : (L.length : Int) < room
  · refine (nmake_ok k v hA g1 g2 hr).mono ?_
    rintro e w' ⟨rfl, ha, ho⟩
    rw [oneM_small (by omega) (by omega) (by omega), oneM_high (by omega) (by omega)] at ha
    refine ⟨(L.length : Int) + 1, 0, by simp, ⟨_, ⟨ha, ho⟩, by simp, .inl ⟨rfl, ?_⟩⟩, fun h => absurd rfl h⟩
    exact Tree.cat hs h (itemAt_new _ _ _ rfl) (by first | omega | simp) (by omega) (by omega) (by omega) x0 y0 (tx.app _) (ty.app _)
  · have hfit : (L.length : Int) ≤ room := by obtain ⟨sv, vv, hi, _⟩ := hA; exact hi.fits
    have he : room = L.length := by omega
    refine (nmake_full k v hA g1 g2 he).mono ?_
    rintro e w' ⟨rfl, hb⟩
    exact ⟨0, 2, rfl, ⟨[], by rw [List.append_nil]; exact Grew.ofBelow hA hb, by simp, .inr ⟨rfl, rfl, he⟩⟩, fun _ => rfl⟩
theorem madeOf_z (hA : Arena w p F room st L) {x y k v er : Int} {A B : List Pr} (hs : Srt (A ++ (k, v) :: B)) (h : ∀ z ∈ A ++ B, abv k z.1 = true) (hl : A.length + B.length + 1 ≤ 1000) (hc : (er = 0 ∧ Tree L x A ∧ Tree L y B) ∨ (er = 2 ∧ room = L.length)) :
    Calls Try.prog 53 #[.pointer (some ⟨p, 0, none⟩), .agg #[.int .i64 k, .int .i64 v], .int .i64 x, .int .i64 y, .int .i64 er] w fun e w' => ∃ n er', e = .returned (.tuple #[.int .i64 n, .int .i64 er']) ∧ (er = 2 → er' = 2) ∧ MkSays w p F room st L (A ++ (k, v) :: B) n er' w' ∧ (er' ≠ 0 → n = 0) := by
  rcases hc with ⟨rfl, tx, ty⟩ | ⟨rfl, he⟩
  · refine madeOf_go _ k v x y w (fun n er' w' => ((0 : Int) = 2 → er' = 2) ∧ MkSays w p F room st L (A ++ (k, v) :: B) n er' w' ∧ (er' ≠ 0 → n = 0)) (fun W hb => (tmake_z (hA.below hb) hs h tx ty hl).mono ?_)
    rintro e w' ⟨n, er, rfl, ⟨M, hg, hM, hcc⟩, hz⟩
    exact ⟨n, er, rfl, fun h => absurd h (by decide), ⟨M, hg.since hb (fun k hk => hk), hM, hcc⟩, hz⟩
  · refine (madeOf_err _ k v x y 2 w (by decide)).mono ?_
    rintro e w' ⟨rfl, hb⟩
    exact ⟨0, 2, rfl, fun _ => rfl, ⟨[], by rw [List.append_nil]; exact Grew.ofBelow hA hb, by simp, .inr ⟨rfl, rfl, he⟩⟩, fun _ => rfl⟩
theorem make_z {M : List It} {b : Nat} (hA : Arena w p F room st (L ++ M)) {x y k v er : Int} {A B : List Pr} (hs : Srt (A ++ (k, v) :: B)) (h : ∀ z ∈ A ++ B, abv k z.1 = true) (hl : A.length + B.length + 1 ≤ 1000)
    (hc : (er = 0 ∧ M.length ≤ b ∧ Tree (L ++ M) x A ∧ Tree (L ++ M) y B) ∨ (er = 2 ∧ room = ((L ++ M).length : Nat) ∧ M.length + 1 ≤ b)) :
    Calls Try.prog 53 #[.pointer (some ⟨p, 0, none⟩), .agg #[.int .i64 k, .int .i64 v], .int .i64 x, .int .i64 y, .int .i64 er] w (Told w p F room st (L ++ M) (fun M2 n er' => CutQ L room (b + 1) (A ++ (k, v) :: B) (M ++ M2) n er' ∧ (er' ≠ 0 → n = 0))) := by
  refine (madeOf_z hA hs h hl (hc.imp (fun h => ⟨h.1, h.2.2.1, h.2.2.2⟩) (fun h => ⟨h.1, h.2.1⟩))).mono ?_
  rintro e w' ⟨n, er', rfl, hee, ⟨M2, hg, hM2, hcc⟩, hz⟩
  refine ⟨n, er', M2, rfl, hg, ?_, hz⟩
  show CutQ L room (b + 1) (A ++ (k, v) :: B) (M ++ M2) n er'
  unfold CutQ
  rw [← List.append_assoc]
  rcases hcc with ⟨rfl, T⟩ | ⟨rfl, rfl, hr⟩
  · rcases hc with ⟨_, hM, _⟩ | ⟨h2, _⟩
    · exact .inl ⟨rfl, by rw [List.length_append]; omega, T⟩
    · exact absurd (hee h2) (by decide)
  · rw [List.append_nil, List.append_nil]
    refine .inr ⟨rfl, hr, ?_⟩
    rcases hc with ⟨_, hM, _⟩ | ⟨_, _, hM⟩ <;> omega
end

theorem joined_z (p : Nat) (room st : Int) (N : Nat) : ∀ (A B : List Pr) (w : World) (l r : Int) (L : List It) (F : Nat → Prop), A.length + B.length ≤ N → Srt (A ++ B) → A.length + B.length ≤ 1000 → Tree L l A → Tree L r B → Arena w p F room st L →
    Calls Try.prog 42 #[.pointer (some ⟨p, 0, none⟩), .int .i64 l, .int .i64 r] w (Told w p F room st L (fun M n er => CutQ L room (hi A + hi B) (A ++ B) M n er ∧ (er ≠ 0 → n = 0))) := by
  induction N with
  | zero =>
    intro A B w l r L F hN hs hl TA TB hA
    obtain rfl : A = [] := List.length_eq_zero_iff.1 (by omega)
    obtain rfl : B = [] := List.length_eq_zero_iff.1 (by omega)
    have e1 := TA.nil_zero
    have e2 := TB.nil_zero
    subst e1; subst e2
    refine (joined_l (fun W hb => at_zero (hA.below hb)) (fun W hb => at_zero (hA.below hb))).mono ?_
    rintro e w' ⟨rfl, hb⟩
    exact Told.none hA hb ⟨.inl ⟨rfl, Nat.zero_le _, .nil⟩, fun h => absurd rfl h⟩
  | succ N ih =>
    intro A B w l r L F hN hs hl TA TB hA
    obtain ⟨sA, sB, hAB⟩ := hs.two
    rcases TA.apart sA with ⟨rfl, rfl⟩ | ⟨x0, y0, A1, A2, ⟨k0, v0⟩, rfl, PA⟩
    · obtain ⟨k, v, x, y, s, h, b, cb⟩ := at_tree hA TB sB (by simpa using hl)
      refine (joined_l (fun W hb => at_zero (hA.below hb)) cb).mono ?_
      rintro e w' ⟨rfl, hb⟩
      exact Told.none hA hb ⟨.inl ⟨rfl, Nat.zero_le _, by rw [List.append_nil]; exact TB⟩, fun h => absurd rfl h⟩
    · have hla : (A1 ++ (k0, v0) :: A2).length = A1.length + A2.length + 1 := by simp; omega
      rw [hla] at hN hl
      rcases TB.apart sB with ⟨rfl, rfl⟩ | ⟨x1, y1, B1, B2, ⟨k1, v1⟩, rfl, PB⟩
      · obtain ⟨s0, h0, ca⟩ := at_apart2 hA PA (by omega)
        refine (joined_r ca (fun W hb => at_zero (hA.below hb))).mono ?_
        rintro e w' ⟨rfl, hb⟩
        exact Told.none hA hb ⟨.inl ⟨rfl, Nat.zero_le _, by rw [List.append_nil, List.append_nil]; exact TA⟩, fun h => absurd rfl h⟩
      · have hlb : (B1 ++ (k1, v1) :: B2).length = B1.length + B2.length + 1 := by simp; omega
        rw [hlb] at hN hl
        obtain ⟨s0, h0, ca⟩ := at_apart2 hA PA (by omega)
        obtain ⟨s1, h1, cb⟩ := at_apart2 hA PB (by omega)
        dsimp only at ca cb
        have tA := PA.top
        have tB := PB.top
        have iA := hi_app sA tA
        have iB := hi_app sB tB
        dsimp only at tA tB
        have hne : k0 ≠ k1 := by have := hAB (k0, v0) (by simp) (k1, v1) (by simp); dsimp only at this; omega
        by_cases hab : abv k0 k1 = true
        · have cab := fun W => mixAbove_any k0 k1 W
          rw [hab] at cab
          have hs2 : Srt (A1 ++ (k0, v0) :: (A2 ++ (B1 ++ (k1, v1) :: B2))) := by simpa using hs
          have sA2 := hs2.parts.2.1
          have htop : ∀ z ∈ A1 ++ (A2 ++ (B1 ++ (k1, v1) :: B2)), abv k0 z.1 = true := by
            intro z hz
            rw [← List.append_assoc] at hz
            rcases List.mem_append.1 hz with hz | hz
            · exact tA z hz
            · exact all_below (q := (k1, v1)) tB hab z hz
          refine (joined_left (Q := fun M n er => CutQ L room (hi A2 + hi (B1 ++ (k1, v1) :: B2) + 1) (A1 ++ (k0, v0) :: (A2 ++ (B1 ++ (k1, v1) :: B2))) M n er ∧ (er ≠ 0 → n = 0)) (Q1 := fun M n er => CutQ L room (hi A2 + hi (B1 ++ (k1, v1) :: B2)) (A2 ++ (B1 ++ (k1, v1) :: B2)) M n er ∧ (er ≠ 0 → n = 0))
            (Q2 := fun M M2 n er => CutQ L room (hi A2 + hi (B1 ++ (k1, v1) :: B2) + 1) (A1 ++ (k0, v0) :: (A2 ++ (B1 ++ (k1, v1) :: B2))) (M ++ M2) n er ∧ (er ≠ 0 → n = 0)) hA ca cb cab
            (fun W G hW => ih A2 (B1 ++ (k1, v1) :: B2) W y0 r L G (by rw [hlb]; omega) sA2 (by rw [hlb]; omega) PA.ty TB hW)
            (fun W G M z er hW hq => make_z hW hs2 htop (by simp; omega) (hq.1.imp (fun h => ⟨h.1, h.2.1, PA.tx.app M, h.2.2⟩) id))
            (fun M M2 n er h => h)).mono ?_
          rintro e w' hT
          exact hT.mono (fun M n er h => ⟨(h.1.mono (by omega)).turn (by simp), h.2⟩)
        · have hab' : abv k0 k1 = false := by simpa using hab
          have hba := abv_of_not hab hne
          have cab := fun W => mixAbove_any k0 k1 W
          rw [hab'] at cab
          have hs2 : Srt ((A1 ++ (k0, v0) :: A2 ++ B1) ++ (k1, v1) :: B2) := by simpa using hs
          have sB1 := hs2.parts.1
          have htop : ∀ z ∈ (A1 ++ (k0, v0) :: A2 ++ B1) ++ B2, abv k1 z.1 = true := by
            intro z hz
            rw [List.append_assoc] at hz
            rcases List.mem_append.1 hz with hz | hz
            · exact all_below (q := (k0, v0)) tA hba z hz
            · exact tB z hz
          refine (joined_right (Q := fun M n er => CutQ L room (hi (A1 ++ (k0, v0) :: A2) + hi B1 + 1) ((A1 ++ (k0, v0) :: A2 ++ B1) ++ (k1, v1) :: B2) M n er ∧ (er ≠ 0 → n = 0)) (Q1 := fun M n er => CutQ L room (hi (A1 ++ (k0, v0) :: A2) + hi B1) (A1 ++ (k0, v0) :: A2 ++ B1) M n er ∧ (er ≠ 0 → n = 0))
            (Q2 := fun M M2 n er => CutQ L room (hi (A1 ++ (k0, v0) :: A2) + hi B1 + 1) ((A1 ++ (k0, v0) :: A2 ++ B1) ++ (k1, v1) :: B2) (M ++ M2) n er ∧ (er ≠ 0 → n = 0)) hA ca cb cab
            (fun W G hW => ih (A1 ++ (k0, v0) :: A2) B1 W l x1 L G (by rw [hla]; omega) sB1 (by rw [hla]; omega) TA PB.tx hW)
            (fun W G M z er hW hq => make_z hW hs2 htop (by simp; omega) (hq.1.imp (fun h => ⟨h.1, h.2.1, h.2.2, PB.ty.app M⟩) id))
            (fun M M2 n er h => h)).mono ?_
          rintro e w' hT
          exact hT.mono (fun M n er h => ⟨(h.1.mono (by omega)).turn (by simp), h.2⟩)


section
variable {w w0 W W' : World} {p : Nat} {F : Nat → Prop} {room st : Int} {L : List It} {t l r : Int}
theorem two_z {A B : List Pr} (hA : Arena w p F room st L) (TA : Tree L l A) (TB : Tree L r B) (hl : A.length + B.length ≤ 1000) (hs : Srt (A ++ B)) :
    Calls Try.prog 24 #[.pointer (some ⟨p, 0, none⟩), .int .i64 l, .int .i64 r] w (Told w p F room st L (fun M n er => CutQ L room (hi A + hi B) (A ++ B) M n er ∧ (er ≠ 0 → n = 0))) := by
  refine (two_goes (R := fun n er w' => ∃ M, Grew w p F room st (L ++ M) w' ∧ CutQ L room (hi A + hi B) (A ++ B) M n er ∧ (er ≠ 0 → n = 0)) _ (tree_is hA TA (by omega)) (fun W hb => tree_is (hA.below hb) TB (by omega)) (fun W hb => by have c := meet_tree (hA.below hb) TA TB; rw [meet_no hs] at c; exact c) (fun W hb => ?_)).mono ?_
  · refine (joined_z p room st _ A B W l r L F (Nat.le_refl _) hs hl TA TB (hA.below hb)).mono ?_
    intro e w' hT
    obtain ⟨n, er, M, he, hg, hq⟩ := hT.since hb (fun k hk => hk)
    exact ⟨n, er, he, M, hg, hq⟩
  · rintro e w' ⟨n, er, he, M, hg, hq⟩
    exact ⟨n, er, M, he, hg, hq⟩
end

/-! ### Rows whose length is another number's name -/

section
variable {p : Nat} {F : Nat → Prop} {room st : Int} {L : List It} {t : Int} {l : List Pr} {a : Option Addr} {cap n : Nat} {w w1 : World}
theorem says_is (T : Tree L t l) (hP : Prs w a cap l) (hA : Arena w p F room st L) (hl : l.length ≤ 1000) (hn : l.length = n) :
    Calls Try.prog 18 #[.pointer (some ⟨p, 0, none⟩), .int .i64 t, .slice a n cap] w fun e w' => e = .returned (.int .i64 0) ∧ Below w.heap.size w w' := by
  subst hn; exact says_any p F room st L t l T a cap w hP hA hl
theorem laid_is (hP : Prs w1 a cap l) (h : Held w1 w p room st L) (hG : Good L) (hr : ((L.length + l.length : Nat) : Int) ≤ room) (hl : l.length ≤ 1000) (hn : l.length = n) :
    Calls Try.prog 13 #[.pointer (some ⟨p, 0, none⟩), .slice a n cap] w (LaidSays w1 p room st L l) := by
  subst hn; exact laid_any w1 p room st l.length a cap l w L (Nat.le_refl _) hP h hG hr hl
end
theorem high_is {l : List Pr} {a : Option Addr} {cap n : Nat} {w : World} {h : Int} (hP : Prs w a cap l) (hl : l.length ≤ 1000) (hn : l.length = n) (hh : (hi l : Int) = h) :
    Calls Try.prog 19 #[.slice a n cap] w fun e w' => e = .returned (.int .i64 h) ∧ Below w.heap.size w w' := by
  subst hn; subst hh; exact high_any l.length a cap l w (Nat.le_refl _) hP hl
end Go.Proofs.Ytellkcppgfghhaa
