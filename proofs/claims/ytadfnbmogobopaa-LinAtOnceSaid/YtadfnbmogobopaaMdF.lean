/- slices.SortStableFunc on a row of pairs of one's own: sorted by key, the pairs of each key in their order. No condition: lemmas. -/
import Derived.Test.YtadfnbmogobopaaMdE
namespace Go.Proofs.Ytadfnbmogobopaa
open Go.RowKit Go.Sort
set_option linter.all false

structure Ph1 (l : List Pr) (a : Nat) (cur : List Pr) : Prop where
  h : ∃ D0 D R, l = D0 ++ R ∧ D0.length = a ∧ D.length = a ∧ DnB 20 D ∧ Stb D0 D ∧ cur = D ++ R
theorem Ph1.start (l : List Pr) : Ph1 l 0 l := ⟨[], [], l, rfl, rfl, rfl, DnB.nil, Stb.refl _, rfl⟩
theorem Ph1.next {l cur : List Pr} {a : Nat} (h : Ph1 l a cur) (ha : a + 20 ≤ cur.length) : ∃ A U B, cur = A ++ U ++ B ∧ A.length = a ∧ U.length = 20 ∧ ∀ X, X.length = 20 → Le X → Stb U X → Ph1 l (a + 20) (A ++ X ++ B) := by
  obtain ⟨D0, D, R, rfl, h1, h2, h3, h4, rfl⟩ := h.h
  rw [List.length_append] at ha
  obtain ⟨U, B, rfl, hU, hB⟩ := part_at R 20 (by omega)
  exact ⟨D, U, B, by simp, h2, hU, fun X hX hl hs => ⟨D0 ++ U, D ++ X, B, by simp, by rw [List.length_append]; omega, by rw [List.length_append]; omega, h3.snoc D X hX hl, h4.app hs, rfl⟩⟩
theorem Ph1.last {l cur : List Pr} {a : Nat} (h : Ph1 l a cur) (ha : cur.length < a + 20) : ∃ A U, cur = A ++ U ++ [] ∧ A.length = a ∧ a + U.length = cur.length ∧ ∀ X, X.length = U.length → Le X → Stb U X → Ch 20 (A ++ X ++ []) ∧ Stb l (A ++ X ++ []) := by
  obtain ⟨D0, D, R, rfl, h1, h2, h3, h4, rfl⟩ := h.h
  rw [List.length_append] at ha
  refine ⟨D, R, by simp, h2, by rw [List.length_append]; omega, fun X hX hl hs => ?_⟩
  rw [List.append_nil]
  exact ⟨h3.ch (Ch.last X (by omega) hl), h4.app hs⟩
structure Ph2 (l : List Pr) (bs a : Nat) (cur : List Pr) : Prop where
  st : Stb l cur
  h : ∃ D R, cur = D ++ R ∧ D.length = a ∧ DnB (2 * bs) D ∧ Ch bs R
theorem Ph2.start {l cur : List Pr} {bs : Nat} (h : Ch bs cur) (hs : Stb l cur) : Ph2 l bs 0 cur := ⟨hs, [], cur, rfl, rfl, DnB.nil, h⟩
theorem Ph2.next {l cur : List Pr} {bs a : Nat} (h : Ph2 l bs a cur) (hb : 0 < bs) (ha : a + 2 * bs ≤ cur.length) : ∃ A U V B, cur = A ++ U ++ V ++ B ∧ A.length = a ∧ U.length = bs ∧ V.length = bs ∧ Le U ∧ Le V ∧
    ∀ X, X.length = U.length + V.length → Le X → Stb (U ++ V) X → Ph2 l bs (a + 2 * bs) (A ++ X ++ B) := by
  obtain ⟨D, R, rfl, h1, h2, h3⟩ := h.h
  rw [List.length_append] at ha
  obtain ⟨x, y, z, rfl, hx, hy, lx, ly, hz⟩ := h3.two hb (by omega)
  refine ⟨D, x, y, z, by simp, h1, hx, hy, lx, ly, fun X hX hl hs => ⟨?_, D ++ X, z, rfl, by rw [List.length_append]; omega, h2.snoc D X (by omega) hl, hz⟩⟩
  refine h.st.trans ?_
  have := ((Stb.refl D).app hs).app (Stb.refl z)
  simpa only [List.append_assoc] using this
theorem Ph2.more {l cur : List Pr} {bs a : Nat} (h : Ph2 l bs a cur) (hb : 0 < bs) (h1 : cur.length < a + 2 * bs) (h2 : a + bs < cur.length) : ∃ A U V, cur = A ++ U ++ V ++ [] ∧ A.length = a ∧ U.length = bs ∧ 0 < V.length ∧ a + bs + V.length = cur.length ∧ Le U ∧ Le V ∧
    ∀ X, X.length = U.length + V.length → Le X → Stb (U ++ V) X → Ch (2 * bs) (A ++ X ++ []) ∧ Stb l (A ++ X ++ []) := by
  obtain ⟨D, R, rfl, d1, d2, d3⟩ := h.h
  rw [List.length_append] at h1 h2
  obtain ⟨x, y, rfl, hx, lx, hy⟩ := d3.split (by omega)
  rw [List.length_append] at h1 h2
  refine ⟨D, x, y, by simp, d1, hx, by omega, by simp only [List.length_append]; omega, lx, hy.le (by omega), fun X hX hl hs => ?_⟩
  rw [List.append_nil]
  refine ⟨d2.ch (Ch.last X (by omega) hl), h.st.trans ?_⟩
  exact (Stb.refl D).app hs
theorem Ph2.less {l cur : List Pr} {bs a : Nat} (h : Ph2 l bs a cur) (h2 : cur.length ≤ a + bs) : Ch (2 * bs) cur ∧ Stb l cur := by
  obtain ⟨D, R, rfl, d1, d2, d3⟩ := h.h
  rw [List.length_append] at h2
  exact ⟨d2.ch (Ch.last R (by omega) (d3.le (by omega))), h.st⟩

theorem inss_wk {w0 w : World} {S : Nat → Prop} {g n cap a b : Nat} {A U B : List Pr} (h : Wk2 w0 S g n cap w (A ++ U ++ B)) (hl : n ≤ 10000000) (ha : A.length = a) (hb : a + U.length = b) :
    Calls Try.prog 66 #[.slice (some ⟨g, 0, none⟩) n cap, .int .i64 a, .int .i64 b, .func (.func 39) #[] #[]] w fun e w' =>
      e = .returned (.tuple #[]) ∧ ∃ X, X.length = U.length ∧ Le X ∧ Stb U X ∧ Wk2 w0 S g n cap w' (A ++ X ++ B) :=
  (inss_any g cap a b n A U B S w h.row h.len hl ha hb).mono (fun e w' hh => by
    obtain ⟨h0, X, h1, h2, h3, h4⟩ := hh
    exact ⟨h0, X, h1, h2, h3, h.hop h4⟩)

set_option maxRecDepth 100000 in
set_option maxHeartbeats 6400000 in
theorem stable_any (g cap n : Nat) (l : List Pr) (S : Nat → Prop) (w : World) (h : PRow w S (.slice (some ⟨g, 0, none⟩) n cap) l) (hn : l.length = n) (hl : n ≤ 10000000) :
    Calls Try.prog 52 #[.slice (some ⟨g, 0, none⟩) n cap, .int .i64 n, .func (.func 39) #[] #[]] w fun e w' => e = .returned (.tuple #[]) ∧ ∃ L, Le L ∧ Stb l L ∧ Wk2 w S g n cap w' L := by
  have HS := Lib.hid (Wk2.start h hn)
  have HP := Lib.hid (Ph1.start l)
  clear h hn
  go_enter Try.func52, Try.ntmps52
  go_wp2_with (fail)
  go_loopw [7, 8] (fun x y wr => ∃ (a : Nat) (cur : List Pr), x = .int .i64 a ∧ y = .int .i64 ((a : Int) + 20) ∧ a ≤ n ∧ Ph1 l a cur ∧ Wk2 w S g n cap wr cur) (fun x _ _ => n - (intOf x).toNat)
  case atStart => exact ⟨0, l, rfl, rfl, Nat.zero_le _, HP.out, HS.out⟩
  case round =>
    clear HS HP
    obtain ⟨a, cur, rfl, rfl, han, hP, hW⟩ := hrel
    have HL : Hid (cur.length = n) := Lib.hid hW.len
    by_cases hlt : a + 20 ≤ n
    · obtain ⟨A, U, B, rfl, hA, hU, hX⟩ := hP.next (by rw [HL.out]; exact hlt)
      have HX := Lib.hid hX
      have HW := Lib.hid hW
      obtain ⟨b, hb⟩ : ∃ b : Nat, a + 20 = b := ⟨_, rfl⟩
      have hbI : (a : Int) + 20 = (b : Int) := by omega
      rw [hbI]
      have c := fun W (hw : Wk2 w S g n cap W (A ++ U ++ B)) => inss_wk (b := b) hw hl hA (by rw [hU, hb])
      have HU := Lib.hid hU
      clear hA hU hP hW hX HL
      have hltI : (b : Int) ≤ (n : Int) := by omega
      go_wp2_with (go_at_call 66; ((with_reducible refine (c _ HW.out).mono ?_); clear c; rintro e w2 ⟨rfl, X, x1, x2, x3, x4⟩; have HN := Lib.hid (HX.out X (by rw [x1, HU.out]) x2 x3); have HW2 := Lib.hid x4; clear x1 x2 x3 x4))
      go_roundw
      case rel => exact ⟨a + 20, _, by go_num, by go_num, hlt, HN.out, HW2.out⟩
      case measure => simp [intOf]; omega
    · obtain ⟨A, U, rfl, hA, hU, hX⟩ := hP.last (by rw [HL.out]; omega)
      rw [HL.out] at hU
      have HX := Lib.hid hX
      have HW := Lib.hid hW
      have c := fun W (hw : Wk2 w S g n cap W (A ++ U ++ [])) => inss_wk (b := n) hw hl hA hU
      clear hA hU hP hW hX HL
      have hltI : ¬ (a : Int) + 20 ≤ (n : Int) := by omega
      go_wp2_with (go_at_call 66; ((with_reducible refine (c _ HW.out).mono ?_); clear c; rintro e w2 ⟨rfl, X, x1, x2, x3, x4⟩; have HC := Lib.hid (HX.out X x1 x2 x3); have HW2 := Lib.hid x4; clear x1 x2 x3 x4))
      go_loopw [6, 7, 8, 9] (fun x _ _ _ wr2 => ∃ (bs : Nat) (cur : List Pr), x = .int .i64 bs ∧ 0 < bs ∧ bs ≤ 40000000 ∧ Ch bs cur ∧ Stb l cur ∧ Wk2 w S g n cap wr2 cur) (fun x _ _ _ _ => n - (intOf x).toNat)
      case atStart => exact ⟨20, _, rfl, by omega, by omega, HC.out.1, HC.out.2, HW2.out⟩
      case round =>
        clear HC HW2 HX HW
        obtain ⟨bs, cur, rfl, hb0, hb1, hC, hSt, hW⟩ := hrel
        have HL : Hid (cur.length = n) := Lib.hid hW.len
        by_cases hbn : bs < n
        · have hbnI : (bs : Int) < (n : Int) := by omega
          have HP := Lib.hid (Ph2.start hC hSt)
          have HW := Lib.hid hW
          clear hC hSt hW HL
          go_wp2_with (fail)
          go_loopw [7, 8] (fun x y wr3 => ∃ (a : Nat) (cur : List Pr), x = .int .i64 a ∧ y = .int .i64 ((a : Int) + 2 * (bs : Int)) ∧ a ≤ n ∧ Ph2 l bs a cur ∧ Wk2 w S g n cap wr3 cur) (fun x _ _ => n - (intOf x).toNat)
          case atStart => exact ⟨0, cur, rfl, by go_num, Nat.zero_le _, HP.out, HW.out⟩
          case round =>
            clear HP HW
            obtain ⟨a, cur, rfl, rfl, han, hP, hW⟩ := hrel
            have HL : Hid (cur.length = n) := Lib.hid hW.len
            by_cases hlt : a + 2 * bs ≤ n
            · obtain ⟨A, U, V, B, rfl, hA, hU, hV, lU, lV, hX⟩ := hP.next hb0 (by rw [HL.out]; exact hlt)
              have HX := Lib.hid hX
              have HW := Lib.hid hW
              obtain ⟨m, hm⟩ : ∃ m : Nat, a + bs = m := ⟨_, rfl⟩
              obtain ⟨b, hb⟩ : ∃ b : Nat, a + 2 * bs = b := ⟨_, rfl⟩
              have c := fun W (hw : Wk2 w S g n cap W (A ++ U ++ V ++ B)) => sym_all _ g cap n a m b A U V B S W w hw hl hA (by omega) (by omega) lU lV (by omega) (by omega) (Nat.le_refl _)
              have hmI : (a : Int) + (bs : Int) = (m : Int) := by omega
              have hbI : (a : Int) + 2 * (bs : Int) = (b : Int) := by omega
              rw [hbI]
              have hltI : (b : Int) ≤ (n : Int) := by omega
              unfold MrgIs at c
              clear hA hU hV lU lV hP hW hX HL
              go_wp2_with (go_at_call 67; ((with_reducible refine (c _ HW.out).mono ?_); clear c; rintro e w2 ⟨rfl, X, x1, x2, x3, x4⟩; have HN := Lib.hid (HX.out X x1 x2 x3); have HW2 := Lib.hid x4; clear x1 x2 x3 x4))
              go_roundw
              case rel => exact ⟨a + 2 * bs, _, by go_num, by go_num, hlt, HN.out, HW2.out⟩
              case measure => simp [intOf]; omega
            · obtain ⟨b, hb⟩ : ∃ b : Nat, a + 2 * bs = b := ⟨_, rfl⟩
              have hbI : (a : Int) + 2 * (bs : Int) = (b : Int) := by omega
              rw [hbI]
              have hltI : ¬ (b : Int) ≤ (n : Int) := by omega
              obtain ⟨m, hm⟩ : ∃ m : Nat, a + bs = m := ⟨_, rfl⟩
              have hmI : (a : Int) + (bs : Int) = (m : Int) := by omega
              by_cases hmn : m < n
              · have hmnI : (m : Int) < (n : Int) := by omega
                obtain ⟨A, U, V, rfl, hA, hU, hV, hVl, lU, lV, hX⟩ := hP.more hb0 (by rw [HL.out]; omega) (by rw [HL.out]; omega)
                rw [HL.out] at hVl
                have HX := Lib.hid hX
                have HW := Lib.hid hW
                have c := fun W (hw : Wk2 w S g n cap W (A ++ U ++ V ++ [])) => sym_all _ g cap n a m n A U V [] S W w hw hl hA (by omega) (by omega) lU lV (by omega) hV (Nat.le_refl _)
                unfold MrgIs at c
                clear hA hU hV hVl lU lV hP hW hX HL
                go_wp2_with (go_at_call 67; ((with_reducible refine (c _ HW.out).mono ?_); clear c; rintro e w2 ⟨rfl, X, x1, x2, x3, x4⟩; have HN := Lib.hid (HX.out X x1 x2 x3); have HW2 := Lib.hid x4; clear x1 x2 x3 x4))
                go_roundw
                case rel => exact ⟨bs * 2, _, by go_num, by omega, by omega, by rw [Nat.mul_comm]; exact HN.out.1, HN.out.2, HW2.out⟩
                case measure => simp [intOf]; omega
              · have hmnI : ¬ (m : Int) < (n : Int) := by omega
                have HN := Lib.hid (hP.less (by rw [HL.out]; omega))
                have HW := Lib.hid hW
                clear hP hW HL
                go_wp2_with (fail)
                go_roundw
                case rel => exact ⟨bs * 2, _, by go_num, by omega, by omega, by rw [Nat.mul_comm]; exact HN.out.1, HN.out.2, HW.out⟩
                case measure => simp [intOf]; omega
        · have hbnI : ¬ (bs : Int) < (n : Int) := by omega
          have HE : Hid (Le cur ∧ Stb l cur ∧ Wk2 w S g n cap wr cur) := Lib.hid ⟨hC.le (by rw [HL.out]; omega), hSt, hW⟩
          clear hC hSt hW HL
          go_wp2_with (fail)
          go_end0
          exact ⟨rfl, cur, HE.out⟩

theorem sort_any (g cap n : Nat) (l : List Pr) (S : Nat → Prop) (w : World) (h : PRow w S (.slice (some ⟨g, 0, none⟩) n cap) l) (hn : l.length = n) (hl : n ≤ 10000000) :
    Calls Try.prog 38 #[.slice (some ⟨g, 0, none⟩) n cap, .func (.func 39) #[] #[]] w fun e w' => e = .returned (.tuple #[]) ∧ ∃ L, Le L ∧ Stb l L ∧ Wk2 w S g n cap w' L := by
  have c := stable_any g cap n l S w h hn hl
  clear h hn
  go_enter Try.func38, Try.ntmps38
  go_wp2_with (go_at_call 52; ((with_reducible refine c.mono ?_); clear c; rintro e w2 ⟨rfl, hL⟩; have HL := Lib.hid hL; clear hL))
  go_end0
  exact ⟨rfl, HL.out⟩
#print axioms sort_any
end Go.Proofs.Ytadfnbmogobopaa
