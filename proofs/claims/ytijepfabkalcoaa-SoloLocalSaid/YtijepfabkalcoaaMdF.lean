/- slices.SortStableFunc on a row of pairs of one's own: sorted by key, the pairs of each key in their order. No condition: lemmas. slices.Clone of pairs; slices.CompactFunc on a row of pairs of one's own: the first pair of each key is kept. No condition: lemmas. slices.CompactFunc on a row of pairs of one's own: the first pair of each key is kept. No condition: lemmas. -/
import Derived.Test.YtijepfabkalcoaaMdE
import Derived.Test.YtijepfabkalcoaaMdA
import Derived.Test.YtijepfabkalcoaaLfB
import Derived.Lib.SliceRun
namespace Go.Proofs.Ytijepfabkalcoaa
open Go.RowKit Go.Sort
set_option linter.all false

structure Ph1 (l : List Pr) (a : Nat) (cur : List Pr) : Prop where
  h : ∃ D0 D R, l = D0 ++ R ∧ D0.length = a ∧ D.length = a ∧ DnB 20 D ∧ Stb D0 D ∧ cur = D ++ R
theorem Ph1.start (l : List Pr) : Ph1 l 0 l := ⟨[], [], l, rfl, rfl, rfl, DnB.nil, Stb.refl _, rfl⟩
theorem Ph1.next {l cur : List Pr} {a : Nat} (h : Ph1 l a cur) (ha : a + 20 ≤ cur.length) : ∃ A U B, cur = A ++ U ++ B ∧ A.length = a ∧ U.length = 20 ∧ ∀ X, X.length = 20 → Le X → Stb U X → Ph1 l (a + 20) (A ++ X ++ B) := by
  obtain ⟨D0, D, R, rfl, h1, h2, h3, h4, rfl⟩ := h.h
  rw [List.length_append] at ha
  obtain ⟨U, B, rfl, hU, hB⟩ := part_at R 20 (by omega)
  exact ⟨D, U, B, by simp, h2, hU, fun X hX hl hs => ⟨D0 ++ U, D ++ X, B, by simp, by rw [List.length_append]; omega, by rw [List.length_append]; omega, h3.snoc D X hX hl, h4.app hs, rfl⟩⟩
theorem Ph1.last {l cur : List Pr} {a : Nat} (h : Ph1 l a cur) (ha : cur.length < a + 20) : ∃ A U, cur = A ++ U ++ [] ∧ A.length = a ∧ a + U.length = cur.length ∧ ∀ X, X.length = U.length → Le X → Stb U X → Ch 20 (A ++ X ++ []) ∧ Stb l (A ++ X ++ []) := by
  obtain ⟨D0, D, R, rfl, h1, h2, h3, h4, rfl⟩ := h.h
  rw [List.length_append] at ha
  refine ⟨D, R, by simp, h2, by rw [List.length_append]; omega, fun X hX hl hs => ?_⟩
  rw [List.append_nil]
  exact ⟨h3.ch (Ch.last X (by omega) hl), h4.app hs⟩
structure Ph2 (l : List Pr) (bs a : Nat) (cur : List Pr) : Prop where
  st : Stb l cur
  h : ∃ D R, cur = D ++ R ∧ D.length = a ∧ DnB (2 * bs) D ∧ Ch bs R
theorem Ph2.start {l cur : List Pr} {bs : Nat} (h : Ch bs cur) (hs : Stb l cur) : Ph2 l bs 0 cur := ⟨hs, [], cur, rfl, rfl, DnB.nil, h⟩
theorem Ph2.next {l cur : List Pr} {bs a : Nat} (h : Ph2 l bs a cur) (hb : 0 < bs) (ha : a + 2 * bs ≤ cur.length) : ∃ A U V B, cur = A ++ U ++ V ++ B ∧ A.length = a ∧ U.length = bs ∧ V.length = bs ∧ Le U ∧ Le V ∧
    ∀ X, X.length = U.length + V.length → Le X → Stb (U ++ V) X → Ph2 l bs (a + 2 * bs) (A ++ X ++ B) := by
  obtain ⟨D, R, rfl, h1, h2, h3⟩ := h.h
  rw [List.length_append] at ha
  obtain ⟨x, y, z, rfl, hx, hy, lx, ly, hz⟩ := h3.two hb (by omega)
  refine ⟨D, x, y, z, by simp, h1, hx, hy, lx, ly, fun X hX hl hs => ⟨?_, D ++ X, z, rfl, by rw [List.length_append]; omega, h2.snoc D X (by omega) hl, hz⟩⟩
  refine h.st.trans ?_
  have := ((Stb.refl D).app hs).app (Stb.refl z)
  simpa only [List.append_assoc] using this
theorem Ph2.more {l cur : List Pr} {bs a : Nat} (h : Ph2 l bs a cur) (hb : 0 < bs) (h1 : cur.length < a + 2 * bs) (h2 : a + bs < cur.length) : ∃ A U V, cur = A ++ U ++ V ++ [] ∧ A.length = a ∧ U.length = bs ∧ 0 < V.length ∧ a + bs + V.length = cur.length ∧ Le U ∧ Le V ∧
    ∀ X, X.length = U.length + V.length → Le X → Stb (U ++ V) X → Ch (2 * bs) (A ++ X ++ []) ∧ Stb l (A ++ X ++ []) := by
  obtain ⟨D, R, rfl, d1, d2, d3⟩ := h.h
  rw [List.length_append] at h1 h2
  obtain ⟨x, y, rfl, hx, lx, hy⟩ := d3.split (by omega)
  rw [List.length_append] at h1 h2
  refine ⟨D, x, y, by simp, d1, hx, by omega, by simp only [List.length_append]; omega, lx, hy.le (by omega), fun X hX hl hs => ?_⟩
  rw [List.append_nil]
  refine ⟨d2.ch (Ch.last X (by omega) hl), h.st.trans ?_⟩
  exact (Stb.refl D).app hs
theorem Ph2.less {l cur : List Pr} {bs a : Nat} (h : Ph2 l bs a cur) (h2 : cur.length ≤ a + bs) : Ch (2 * bs) cur ∧ Stb l cur := by
  obtain ⟨D, R, rfl, d1, d2, d3⟩ := h.h
  rw [List.length_append] at h2
  exact ⟨d2.ch (Ch.last R (by omega) (d3.le (by omega))), h.st⟩

theorem inss_wk {w0 w : World} {S : Nat → Prop} {g n cap a b : Nat} {A U B : List Pr} (h : Wk2 w0 S g n cap w (A ++ U ++ B)) (hl : n ≤ 10000000) (ha : A.length = a) (hb : a + U.length = b) :
    Calls Try.prog 114 #[.slice (some ⟨g, 0, none⟩) n cap, .int .i64 a, .int .i64 b, .func (.func 84) #[] #[]] w fun e w' =>
      e = .returned (.tuple #[]) ∧ ∃ X, X.length = U.length ∧ Le X ∧ Stb U X ∧ Wk2 w0 S g n cap w' (A ++ X ++ B) :=
  (inss_any g cap a b n A U B S w h.row h.len hl ha hb).mono (fun e w' hh => by
    obtain ⟨h0, X, h1, h2, h3, h4⟩ := hh
    exact ⟨h0, X, h1, h2, h3, h.hop h4⟩)

set_option maxRecDepth 100000 in
set_option maxHeartbeats 6400000 in
theorem stable_any (g cap n : Nat) (l : List Pr) (S : Nat → Prop) (w : World) (h : PRow w S (.slice (some ⟨g, 0, none⟩) n cap) l) (hn : l.length = n) (hl : n ≤ 10000000) :
    Calls Try.prog 101 #[.slice (some ⟨g, 0, none⟩) n cap, .int .i64 n, .func (.func 84) #[] #[]] w fun e w' => e = .returned (.tuple #[]) ∧ ∃ L, Le L ∧ Stb l L ∧ Wk2 w S g n cap w' L := by
  have HS := Lib.hid (Wk2.start h hn)
  have HP := Lib.hid (Ph1.start l)
  clear h hn
  go_enter Try.func101, Try.ntmps101
  go_wp2_with (fail)
  go_loopw [7, 8] (fun x y wr => ∃ (a : Nat) (cur : List Pr), x = .int .i64 a ∧ y = .int .i64 ((a : Int) + 20) ∧ a ≤ n ∧ Ph1 l a cur ∧ Wk2 w S g n cap wr cur) (fun x _ _ => n - (intOf x).toNat)
  case atStart => exact ⟨0, l, rfl, rfl, Nat.zero_le _, HP.out, HS.out⟩
  case round =>
    clear HS HP
    obtain ⟨a, cur, rfl, rfl, han, hP, hW⟩ := hrel
    have HL : Hid (cur.length = n) := Lib.hid hW.len
    by_cases hlt : a + 20 ≤ n
    · obtain ⟨A, U, B, rfl, hA, hU, hX⟩ := hP.next (by rw [HL.out]; exact hlt)
      have HX := Lib.hid hX
      have HW := Lib.hid hW
      obtain ⟨b, hb⟩ : ∃ b : Nat, a + 20 = b := ⟨_, rfl⟩
      have hbI : (a : Int) + 20 = (b : Int) := by omega
      rw [hbI]
      have c := fun W (hw : Wk2 w S g n cap W (A ++ U ++ B)) => inss_wk (b := b) hw hl hA (by rw [hU, hb])
      have HU := Lib.hid hU
      clear hA hU hP hW hX HL
      have hltI : (b : Int) ≤ (n : Int) := by omega
      go_wp2_with (go_at_call 114; ((with_reducible refine (c _ HW.out).mono ?_); clear c; rintro e w2 ⟨rfl, X, x1, x2, x3, x4⟩; have HN := Lib.hid (HX.out X (by rw [x1, HU.out]) x2 x3); have HW2 := Lib.hid x4; clear x1 x2 x3 x4))
      go_roundw
      case rel => exact ⟨a + 20, _, by go_num, by go_num, hlt, HN.out, HW2.out⟩
      case measure => simp [intOf]; omega
    · obtain ⟨A, U, rfl, hA, hU, hX⟩ := hP.last (by rw [HL.out]; omega)
      rw [HL.out] at hU
      have HX := Lib.hid hX
      have HW := Lib.hid hW
      have c := fun W (hw : Wk2 w S g n cap W (A ++ U ++ [])) => inss_wk (b := n) hw hl hA hU
      clear hA hU hP hW hX HL
      have hltI : ¬ (a : Int) + 20 ≤ (n : Int) := by omega
      go_wp2_with (go_at_call 114; ((with_reducible refine (c _ HW.out).mono ?_); clear c; rintro e w2 ⟨rfl, X, x1, x2, x3, x4⟩; have HC := Lib.hid (HX.out X x1 x2 x3); have HW2 := Lib.hid x4; clear x1 x2 x3 x4))
      go_loopw [6, 7, 8, 9] (fun x _ _ _ wr2 => ∃ (bs : Nat) (cur : List Pr), x = .int .i64 bs ∧ 0 < bs ∧ bs ≤ 40000000 ∧ Ch bs cur ∧ Stb l cur ∧ Wk2 w S g n cap wr2 cur) (fun x _ _ _ _ => n - (intOf x).toNat)
      case atStart => exact ⟨20, _, rfl, by omega, by omega, HC.out.1, HC.out.2, HW2.out⟩
      case round =>
        clear HC HW2 HX HW
        obtain ⟨bs, cur, rfl, hb0, hb1, hC, hSt, hW⟩ := hrel
        have HL : Hid (cur.length = n) := Lib.hid hW.len
        by_cases hbn : bs < n
        · have hbnI : (bs : Int) < (n : Int) := by omega
          have HP := Lib.hid (Ph2.start hC hSt)
          have HW := Lib.hid hW
          clear hC hSt hW HL
          go_wp2_with (fail)
          go_loopw [7, 8] (fun x y wr3 => ∃ (a : Nat) (cur : List Pr), x = .int .i64 a ∧ y = .int .i64 ((a : Int) + 2 * (bs : Int)) ∧ a ≤ n ∧ Ph2 l bs a cur ∧ Wk2 w S g n cap wr3 cur) (fun x _ _ => n - (intOf x).toNat)
          case atStart => exact ⟨0, cur, rfl, by go_num, Nat.zero_le _, HP.out, HW.out⟩
          case round =>
            clear HP HW
            obtain ⟨a, cur, rfl, rfl, han, hP, hW⟩ := hrel
            have HL : Hid (cur.length = n) := Lib.hid hW.len
            by_cases hlt : a + 2 * bs ≤ n
            · obtain ⟨A, U, V, B, rfl, hA, hU, hV, lU, lV, hX⟩ := hP.next hb0 (by rw [HL.out]; exact hlt)
              have HX := Lib.hid hX
              have HW := Lib.hid hW
              obtain ⟨m, hm⟩ : ∃ m : Nat, a + bs = m := ⟨_, rfl⟩
              obtain ⟨b, hb⟩ : ∃ b : Nat, a + 2 * bs = b := ⟨_, rfl⟩
              have c := fun W (hw : Wk2 w S g n cap W (A ++ U ++ V ++ B)) => sym_all _ g cap n a m b A U V B S W w hw hl hA (by omega) (by omega) lU lV (by omega) (by omega) (Nat.le_refl _)
              have hmI : (a : Int) + (bs : Int) = (m : Int) := by omega
              have hbI : (a : Int) + 2 * (bs : Int) = (b : Int) := by omega
              rw [hbI]
              have hltI : (b : Int) ≤ (n : Int) := by omega
              unfold MrgIs at c
              clear hA hU hV lU lV hP hW hX HL
              go_wp2_with (go_at_call 115; ((with_reducible refine (c _ HW.out).mono ?_); clear c; rintro e w2 ⟨rfl, X, x1, x2, x3, x4⟩; have HN := Lib.hid (HX.out X x1 x2 x3); have HW2 := Lib.hid x4; clear x1 x2 x3 x4))
              go_roundw
              case rel => exact ⟨a + 2 * bs, _, by go_num, by go_num, hlt, HN.out, HW2.out⟩
              case measure => simp [intOf]; omega
            · obtain ⟨b, hb⟩ : ∃ b : Nat, a + 2 * bs = b := ⟨_, rfl⟩
              have hbI : (a : Int) + 2 * (bs : Int) = (b : Int) := by omega
              rw [hbI]
              have hltI : ¬ (b : Int) ≤ (n : Int) := by omega
              obtain ⟨m, hm⟩ : ∃ m : Nat, a + bs = m := ⟨_, rfl⟩
              have hmI : (a : Int) + (bs : Int) = (m : Int) := by omega
              by_cases hmn : m < n
              · have hmnI : (m : Int) < (n : Int) := by omega
                obtain ⟨A, U, V, rfl, hA, hU, hV, hVl, lU, lV, hX⟩ := hP.more hb0 (by rw [HL.out]; omega) (by rw [HL.out]; omega)
                rw [HL.out] at hVl
                have HX := Lib.hid hX
                have HW := Lib.hid hW
                have c := fun W (hw : Wk2 w S g n cap W (A ++ U ++ V ++ [])) => sym_all _ g cap n a m n A U V [] S W w hw hl hA (by omega) (by omega) lU lV (by omega) hV (Nat.le_refl _)
                unfold MrgIs at c
                clear hA hU hV hVl lU lV hP hW hX HL
                go_wp2_with (go_at_call 115; ((with_reducible refine (c _ HW.out).mono ?_); clear c; rintro e w2 ⟨rfl, X, x1, x2, x3, x4⟩; have HN := Lib.hid (HX.out X x1 x2 x3); have HW2 := Lib.hid x4; clear x1 x2 x3 x4))
                go_roundw
                case rel => exact ⟨bs * 2, _, by go_num, by omega, by omega, by rw [Nat.mul_comm]; exact HN.out.1, HN.out.2, HW2.out⟩
                case measure => simp [intOf]; omega
              · have hmnI : ¬ (m : Int) < (n : Int) := by omega
                have HN := Lib.hid (hP.less (by rw [HL.out]; omega))
                have HW := Lib.hid hW
                clear hP hW HL
                go_wp2_with (fail)
                go_roundw
                case rel => exact ⟨bs * 2, _, by go_num, by omega, by omega, by rw [Nat.mul_comm]; exact HN.out.1, HN.out.2, HW.out⟩
                case measure => simp [intOf]; omega
        · have hbnI : ¬ (bs : Int) < (n : Int) := by omega
          have HE : Hid (Le cur ∧ Stb l cur ∧ Wk2 w S g n cap wr cur) := Lib.hid ⟨hC.le (by rw [HL.out]; omega), hSt, hW⟩
          clear hC hSt hW HL
          go_wp2_with (fail)
          go_end0
          exact ⟨rfl, cur, HE.out⟩

theorem sort_any (g cap n : Nat) (l : List Pr) (S : Nat → Prop) (w : World) (h : PRow w S (.slice (some ⟨g, 0, none⟩) n cap) l) (hn : l.length = n) (hl : n ≤ 10000000) :
    Calls Try.prog 83 #[.slice (some ⟨g, 0, none⟩) n cap, .func (.func 84) #[] #[]] w fun e w' => e = .returned (.tuple #[]) ∧ ∃ L, Le L ∧ Stb l L ∧ Wk2 w S g n cap w' L := by
  have c := stable_any g cap n l S w h hn hl
  clear h hn
  go_enter Try.func83, Try.ntmps83
  go_wp2_with (go_at_call 101; ((with_reducible refine c.mono ?_); clear c; rintro e w2 ⟨rfl, hL⟩; have HL := Lib.hid hL; clear hL))
  go_end0
  exact ⟨rfl, HL.out⟩
end Go.Proofs.Ytijepfabkalcoaa

namespace Go.Proofs.Ytijepfabkalcoaa
open Go.RowKit Go.Sort
set_option linter.all false
set_option maxRecDepth 20000

set_option maxHeartbeats 1600000 in
theorem clone_some (ad : Addr) (cap : Nat) (l : List Pr) (w : World) (h : Prs w (some ad) cap l) (hl : l.length ≤ 1100000) :
    Calls Try.prog 50 #[.slice (some ad) l.length cap] w (RowIs w l) := by
  have ba : Below w.heap.size w (w.alloc (.cells #[] 41)) := (Below.refl _ _).alloc (Nat.le_refl _) _
  have HH := Lib.hid (h.below ba)
  have HP := Lib.hid (PRow.lit w)
  have hc1 := h.1
  have hc2 := h.2.1
  clear h
  unfold maxLen at hc2
  go_enter Try.func50, Try.ntmps50
  have hq := fun W => Lib.run_eql_slice_nil (P := Try.prog) W 42 41 (some ad) l.length cap 0 0 Try.underlying42
  simp only [Option.isNone] at hq
  go_wp2_with (at_builtin; refine wpList_app rfl (.tmp 5) (.tmp 6) rfl (fun j => j < w.heap.size) _ [] l rfl HP.out (fun k hk => by simp; omega) _ rfl (src_any HH.out) (by simp; omega) l.length (by simp) l rfl ?_; intro ao cp w1 hm1 hc3 hR hO; have HF := Lib.hid (And.intro hR hO); clear hR hO; unfold maxLen at hm1)
  go_ret
  exact ⟨_, _, rfl, HF.out.1, only_below (w0 := w) ba HF.out.2 (fun k hk => hk)⟩
/-- slices.Clone. -/
theorem clone_any (a : Option Addr) (cap : Nat) (l : List Pr) (w : World) (h : Prs w a cap l) (hl : l.length ≤ 1100000) :
    Calls Try.prog 50 #[.slice a l.length cap] w (RowIs w l) := by
  cases a with
  | some ad => exact clone_some ad cap l w h hl
  | none =>
    have e0 := h.2.2.2 rfl
    have e1 : l = [] := List.eq_nil_of_length_eq_zero (by have := h.1; omega)
    subst e0
    subst e1
    clear h
    have hq := fun W => Lib.run_eql_slice_nil (P := Try.prog) W 42 41 none 0 0 0 0 Try.underlying42
    simp only [Option.isNone] at hq
    go_enter Try.func50, Try.ntmps50
    go_wp2_with (fail)
    go_ret
    exact ⟨_, _, rfl, PRow.nil _ _, Below.refl _ _⟩

theorem new2_yes (k v v' : Int) (w : World) : Calls Try.prog 87 #[.agg #[.int .i64 k, .int .i64 v], .agg #[.int .i64 k, .int .i64 v']] w fun e w' =>
    e = .returned (.bool true) ∧ ∃ q os', w' = grow (w.drewN q) os' := by
  go_enter Try.func87, Try.ntmps87
  go_wp2_with (fail)
  go_ret
  exact ⟨by simp, 0, _, by rw [alloc_eq_grow, alloc_eq_grow, grow_grow]; rfl⟩
theorem new2_no (k v k' v' : Int) (w : World) (h : ¬ k = k') : Calls Try.prog 87 #[.agg #[.int .i64 k, .int .i64 v], .agg #[.int .i64 k', .int .i64 v']] w fun e w' =>
    e = .returned (.bool false) ∧ ∃ q os', w' = grow (w.drewN q) os' := by
  have hb : (k == k') = false := by simp [h]
  go_enter Try.func87, Try.ntmps87
  go_wp2_with (fail)
  go_ret
  exact ⟨by simp [hb, h], 0, _, by rw [alloc_eq_grow, alloc_eq_grow, grow_grow]; rfl⟩

/-- A row's first pairs are a row. -/
theorem PRow.first {w : World} {S : Nat → Prop} {g n cap : Nat} {l : List Pr} (h : PRow w S (.slice (some ⟨g, 0, none⟩) n cap) l) (hn : l.length = n) (m : Nat) (hm : m ≤ n) : PRow w S (.slice (some ⟨g, 0, none⟩) m cap) (l.take m) := by
  subst hn
  refine ⟨?_, fun k hk => h.av k hk⟩
  have hl : (l.take m).length = m := by rw [List.length_take]; omega
  have hc : ∀ (l : List Pr) (m : Nat), cellsP (l.take m) = (cellsP l).take (m * 2) := by
    intro l
    induction l with
    | nil => intro m; simp [cellsP]
    | cons x l ih =>
      intro m
      cases m with
      | zero => simp [cellsP]
      | succ m =>
        rw [show (m + 1) * 2 = m * 2 + 1 + 1 by omega]
        simp only [List.take_succ_cons, cellsP, ih m]
  rw [hl, hc]
  refine ⟨by rw [List.length_take, cellsP_len]; omega, ?_⟩
  rcases h.row.2 with ⟨e, _⟩ | ⟨g', cap', cur, e, hb, hg, hnc, hcm, hcs, ht⟩
  · simp at e
  · simp only [Value.slice.injEq, Option.some.injEq, Addr.mk.injEq, and_true, true_and] at e
    obtain ⟨rfl, rfl⟩ := e
    refine .inr ⟨_, _, cur, rfl, hb, hg, by omega, hcm, hcs, ?_⟩
    rw [← ht, List.take_take]
    congr 1
    omega

theorem zeros2 (n : Nat) : (Builtin.zeroCells (Value.agg #[.int .i64 0, .int .i64 0]).cells n).toList = List.replicate (n * 2) (Value.int .i64 0) := by
  have hz : (Value.agg #[.int .i64 0, .int .i64 0]).cells = #[.int .i64 0, .int .i64 0] := rfl
  rw [hz]
  simp only [Builtin.zeroCells]
  apply List.ext_getElem
  · simp
  · intro i h1 h2
    simp only [Array.toList_map, Array.toList_range, List.getElem_map, List.getElem_range, List.getElem_replicate]
    have : i % (#[Value.int .i64 0, .int .i64 0] : Array Value).size = 0 ∨ i % (#[Value.int .i64 0, .int .i64 0] : Array Value).size = 1 := by
      show i % 2 = 0 ∨ i % 2 = 1
      omega
    rcases this with e | e <;> rw [e] <;> rfl
theorem zeroP (w : World) : (zeroValue 41).run Try.prog w = .ok (.agg #[.int .i64 0, .int .i64 0]) w := by rfl
/-- clear of pairs. -/
theorem run_clear_prs (w : World) (ty : TypeId) (b o n c : Nat) (hn : 0 < n) (hc : ∀ j, j < n * 2 → (w.cell? ⟨b, o + j, none⟩).isSome = true) (hf : ∀ j, j < n * 2 → w.frozen? ⟨b, o + j, none⟩ = false) :
    (Builtin.clear_ #[42] ty #[.slice (some ⟨b, o, none⟩) n c]).run Try.prog w = .ok (.tuple #[]) (w.setCells b o (List.replicate (n * 2) (.int .i64 0))) := by
  have hst := run_storeCells_cells (P := Try.prog) b o (List.replicate (n * 2) (.int .i64 0)) 0 w (by simpa using hc) (by simpa using hf) (by intro v hv'; rw [List.eq_of_mem_replicate hv']; rfl)
  simp only [Nat.add_zero] at hst
  obtain ⟨m, rfl⟩ : ∃ m, n = m + 1 := ⟨n - 1, by omega⟩
  simp [Builtin.clear_, run_underlying Try.underlying42, zeroP, zeros2, hst]
theorem only_cellsP (g : Nat) : ∀ (vs : List Value) (o : Nat) (W : World), Only (fun k => k = g) W (W.setCells g o vs)
  | [], o, W => Only.refl _ _
  | v :: vs, o, W => ((Only.refl (fun k => k = g) W).setCell (p := ⟨g, o, none⟩) (.inl rfl) v).trans (only_cellsP g vs (o + 1) _) (fun k hk _ => hk)
theorem row_cells {g n cap : Nat} {S : Nat → Prop} : ∀ (vs : List Value) (o : Nat) (w : World) (xs : List Value), w.ownsRow 0 41 2 (.slice (some ⟨g, 0, none⟩) n cap) n xs →
    ∃ ys, (w.setCells g o vs).ownsRow 0 41 2 (.slice (some ⟨g, 0, none⟩) n cap) n ys ∧ ys.take o = xs.take o
  | [], o, w, xs, h => ⟨xs, h, rfl⟩
  | v :: vs, o, w, xs, h => by
    obtain ⟨ys, h1, h2⟩ := row_cells (S := S) vs (o + 1) _ _ (h.stored o v).1
    refine ⟨ys, h1, ?_⟩
    have := congrArg (List.take o) h2
    rw [List.take_take, List.take_take, show min o (o + 1) = o by omega, List.take_set_of_le (Nat.le_refl _)] at this
    exact this
/-- Behind a clear from m on the first m pairs are what they were. -/
theorem PRow.cleared {w : World} {S : Nat → Prop} {g n cap : Nat} {l : List Pr} (h : PRow w S (.slice (some ⟨g, 0, none⟩) n cap) l) (hn : l.length = n) (m : Nat) (hm : m ≤ n) (vs : List Value) :
    PRow (w.setCells g (m * 2) vs) S (.slice (some ⟨g, 0, none⟩) m cap) (l.take m) := by
  have hf := h.first hn m hm
  obtain ⟨ys, h1, h2⟩ := row_cells (S := S) vs (m * 2) w (cellsP l) (by have := h.row; rwa [hn] at this)
  refine ⟨?_, fun k hk => h.av k hk⟩
  have hl : (l.take m).length = m := by rw [List.length_take]; omega
  have hr := hf.row
  rw [hl] at hr ⊢
  refine ⟨hr.1, ?_⟩
  rcases h1.2 with ⟨e, _⟩ | ⟨g', cap', cur, e, hb, hg, hnc, hcm, hcs, ht⟩
  · simp at e
  rcases h.row.2 with ⟨e', _⟩ | ⟨g2, cap2, cur2, e', hb2, hg2, hnc2, hcm2, hcs2, ht2⟩
  · simp at e'
  rcases hr.2 with ⟨e3, _⟩ | ⟨g3, cap3, cur3, e3, hb3, hg3, hnc3, hcm3, hcs3, ht3⟩
  · simp at e3
  simp only [Value.slice.injEq, Option.some.injEq, Addr.mk.injEq, and_true, true_and] at e e' e3
  obtain ⟨rfl, rfl⟩ := e
  obtain ⟨rfl, -, rfl⟩ := e'
  obtain ⟨rfl, rfl⟩ := e3
  refine .inr ⟨_, _, cur, rfl, hb, hg, by omega, hcm, hcs, ?_⟩
  have hcc : cur2 = cur3 := by
    rw [hg2] at hg3
    simpa using hg3
  subst hcc
  have a1 : cur.toList.take (m * 2) = ys.take (m * 2) := by rw [← ht, List.take_take]; congr 1; omega
  have a2 : cur2.toList.take (m * 2) = (cellsP l).take (m * 2) := by rw [← ht2, List.take_take]; congr 1; omega
  rw [a1, h2, ← a2]
  exact ht3
end Go.Proofs.Ytijepfabkalcoaa

namespace Go.Proofs.Ytijepfabkalcoaa
open Go.RowKit Go.Sort
set_option linter.all false
set_option maxRecDepth 20000

/-- What the inner loop keeps: j pairs from k0 on are seen, m are kept. -/
structure Cpt (l cur : List Pr) (k0 j m : Nat) : Prop where
  len : cur.length = l.length
  hm : m = (ded l (k0 + j)).length
  pre : cur.take m = ded l (k0 + j)
  suf : ∀ i, k0 + j ≤ i + 1 → cur[i]? = l[i]?
  mb : m + 1 ≤ k0 + j
theorem Cpt.start {l : List Pr} {k0 : Nat} {x y : Pr} (h0 : ¬ k0 = 0) (hk : k0 < l.length) (h : ded l k0 = l.take k0) (hx : l[k0]? = some x) (hy : l[k0 - 1]? = some y) (e : x.1 = y.1) : Cpt l l k0 1 k0 := by
  have hd : ded l (k0 + 1) = l.take k0 := (ded_same h0 hx hy e).trans h
  exact ⟨rfl, by rw [hd, List.length_take]; omega, hd.symm, fun i _ => rfl, Nat.le_refl _⟩
theorem Cpt.same {l cur : List Pr} {k0 j m : Nat} {x y : Pr} (h : Cpt l cur k0 j m) (h0 : ¬ k0 = 0) (hx : l[k0 + j]? = some x) (hy : l[k0 + j - 1]? = some y) (e : x.1 = y.1) : Cpt l cur k0 (j + 1) m := by
  have hd : ded l (k0 + (j + 1)) = ded l (k0 + j) := ded_same (n := k0 + j) (by omega) hx hy e
  exact ⟨h.len, by rw [hd]; exact h.hm, by rw [hd]; exact h.pre, fun i hi => h.suf i (by omega), by have := h.mb; omega⟩
theorem Cpt.other {l cur : List Pr} {k0 j m : Nat} {x y : Pr} (h : Cpt l cur k0 j m) (h0 : ¬ k0 = 0) (hj : k0 + j < l.length) (hx : l[k0 + j]? = some x) (hy : l[k0 + j - 1]? = some y) (e : ¬ x.1 = y.1) : Cpt l (cur.set m x) k0 (j + 1) (m + 1) := by
  have hd : ded l (k0 + (j + 1)) = ded l (k0 + j) ++ [x] := ded_other (n := k0 + j) (by omega) hx hy e
  have hmb := h.mb
  refine ⟨by rw [List.length_set]; exact h.len, by rw [hd, List.length_append, ← h.hm]; rfl, ?_, fun i hi => by rw [List.getElem?_set_ne (by omega)]; exact h.suf i (by omega), by omega⟩
  rw [hd, List.take_succ, List.getElem?_set_self (by rw [h.len]; omega), List.take_set_of_le (Nat.le_refl _), h.pre]
  rfl
theorem Wk2.put {w0 w : World} {S : Nat → Prop} {g n cap : Nat} {l : List Pr} (h : Wk2 w0 S g n cap w l) (i : Nat) (q : Pr) :
    Wk2 w0 S g n cap ((w.setCell ⟨g, i * 2, none⟩ (.int .i64 q.1)).setCell ⟨g, i * 2 + 1, none⟩ (.int .i64 q.2)) (l.set i q) :=
  ⟨h.row.set h.len.symm i q, by rw [List.length_set]; exact h.len, h.o.trans (only_set _ _ _ _) (fun k hk _ => hk)⟩

/-- What slices.CompactFunc tells. -/
def CmpIs (w : World) (S : Nat → Prop) (g cap : Nat) (R : List Pr) (e : Ending) (w' : World) : Prop :=
  e = .returned (.slice (some ⟨g, 0, none⟩) R.length cap) ∧ PRow w' S (.slice (some ⟨g, 0, none⟩) R.length cap) R ∧ Only (fun k => k = g) w w'

set_option maxRecDepth 100000 in
set_option maxHeartbeats 6400000 in
theorem compact_two (g cap n : Nat) (l : List Pr) (S : Nat → Prop) (w : World) (h : PRow w S (.slice (some ⟨g, 0, none⟩) n cap) l) (hn : l.length = n) (hl : n ≤ 10000000) (h2 : 2 ≤ n) :
    Calls Try.prog 86 #[.slice (some ⟨g, 0, none⟩) n cap, .func (.func 87) #[] #[]] w (CmpIs w S g cap (ded l n)) := by
  have HS := Lib.hid (Wk2.start h hn)
  have hcap := (h.prs hn.symm).1
  have hcap2 := (h.prs hn.symm).2.1
  rw [hn] at hcap
  unfold maxLen at hcap2
  have HN := Lib.hid hn
  have hd2 : decide ((n : Int) < 2) = false := decide_eq_false (by omega)
  have hd2' : ¬ (n : Int) < 2 := by omega
  have mixed : Try.prog.follows .mixedOrders = true := by kernel_rfl
  have HD : Hid (ded l 1 = l.take 1) := Lib.hid (ded_all 1 (by omega) (fun i x y h1 h2 => by omega))
  clear h hn
  go_enter Try.func86, Try.ntmps86
  go_wp2_with (fail)
  go_loopw [5] (fun x wr => ∃ k : Nat, x = .int .i64 k ∧ 1 ≤ k ∧ k ≤ n ∧ ded l k = l.take k ∧ Wk2 w S g n cap wr l) (fun x _ => n - (intOf x).toNat)
  case atStart => exact ⟨1, rfl, Nat.le_refl _, by omega, HD.out, HS.out⟩
  case round =>
    clear HS HD
    obtain ⟨k, rfl, hk1, hkn, hd, hW⟩ := hrel
    have HD := Lib.hid hd
    have HW := Lib.hid hW
    clear hd hW
    by_cases hlt : k < n
    · have hltI : (k : Int) < (n : Int) := by omega
      have hk0 : (0 : Int) ≤ (k : Int) := by omega
      obtain ⟨y, hy⟩ : ∃ y : Nat, k - 1 = y := ⟨_, rfl⟩
      have hyI : (k : Int) - 1 = (y : Int) := by omega
      have ry : IntKind.i64.wrap ((k : Int) - 1) = (y : Int) := by rw [IntKind.wrap_i64]; omega
      have ry2 : IntKind.i64.wrap (y : Int) = (y : Int) := by rw [IntKind.wrap_i64]; omega
      have hyl : (y : Int) < (n : Int) := by omega
      have hy0 : (0 : Int) ≤ (y : Int) := by omega
      obtain ⟨p, hp⟩ : ∃ p, l[k]? = some p := ⟨_, List.getElem?_eq_getElem (by rw [HN.out]; omega)⟩
      obtain ⟨q, hq⟩ : ∃ q, l[y]? = some q := ⟨_, List.getElem?_eq_getElem (by rw [HN.out]; omega)⟩
      obtain ⟨g0, g1⟩ := HW.out.cellG k p hp
      obtain ⟨g2, g3⟩ := HW.out.cellG y q hq
      rw [← hy] at hq
      obtain ⟨pk, pv⟩ := p
      obtain ⟨qk, qv⟩ := q
      dsimp only at g0 g1 g2 g3
      by_cases hpq : pk = qk
      · subst hpq
        have c := fun W => new2_yes pk pv qv W
        have HC := Lib.hid (Cpt.start (by omega) (by rw [HN.out]; omega) HD.out hp hq rfl)
        have hcapk : (k : Int) ≤ (cap : Int) := by omega
        have hkk : (k : Int) ≤ (n : Int) := by omega
        have hck : ¬ cap = k := by omega
        clear hp hq hy
        go_wp2_with (fail)
        go_quiet_grown (first | (go_at_call 87; exact Calls.grown_of (c _)))
        have HW2 := Lib.hid (HW.out.grown nq osq)
        clear g0 g1 g2 g3 HW
        generalize grow (wr.drewN nq) osq = w2 at HW2 ⊢
        clear nq osq
        go_wp2_with (fail)
        go_loopw [5, 7] (fun x z wr2 => ∃ (m j : Nat) (cur : List Pr), x = .int .i64 m ∧ z = .int .i64 j ∧ 1 ≤ j ∧ k + j ≤ n ∧ Cpt l cur k j m ∧ Wk2 w S g n cap wr2 cur) (fun _ z _ => n - (intOf z).toNat)
        case atStart => exact ⟨k, 1, l, rfl, rfl, Nat.le_refl _, by omega, HC.out, HW2.out⟩
        case round =>
          clear HC HW2
          obtain ⟨m, j, cur, rfl, rfl, hj1, hkj, hC, hW⟩ := hrel
          have HC := Lib.hid hC
          have HW := Lib.hid hW
          have hmb := hC.mb
          clear hC hW
          by_cases hjlt : k + j < n
          · obtain ⟨t, ht⟩ : ∃ t : Nat, j - 1 = t := ⟨_, rfl⟩
            have htI : (j : Int) - 1 = (t : Int) := by omega
            have rt : IntKind.i64.wrap ((j : Int) - 1) = (t : Int) := by rw [IntKind.wrap_i64]; omega
            have rt2 : IntKind.i64.wrap (t : Int) = (t : Int) := by rw [IntKind.wrap_i64]; omega
            have hj0 : (0 : Int) ≤ (j : Int) := by omega
            have ht0 : (0 : Int) ≤ (t : Int) := by omega
            have hjn : (j : Int) < (n : Int) - (k : Int) := by omega
            have htn : (t : Int) < (n : Int) - (k : Int) := by omega
            have hjn2 : (j : Int) < ((n - k : Nat) : Int) := by omega
            have htn2 : (t : Int) < ((n - k : Nat) : Int) := by omega
            obtain ⟨p, hp⟩ : ∃ p, l[k + j]? = some p := ⟨_, List.getElem?_eq_getElem (by rw [HN.out]; omega)⟩
            obtain ⟨q, hq⟩ : ∃ q, l[k + j - 1]? = some q := ⟨_, List.getElem?_eq_getElem (by rw [HN.out]; omega)⟩
            obtain ⟨g0, g1⟩ := HW.out.cellG (k + j) p ((HC.out.suf _ (by omega)).trans hp)
            obtain ⟨g2, g3⟩ := HW.out.cellG (k + t) q (by rw [HC.out.suf _ (by omega), ← hq]; congr 1; omega)
            rw [show (k + j) * 2 = k * 2 + j * 2 by omega] at g0 g1
            rw [show (k + t) * 2 = k * 2 + t * 2 by omega] at g2 g3
            obtain ⟨pk, pv⟩ := p
            obtain ⟨qk, qv⟩ := q
            dsimp only at g0 g1 g2 g3
            by_cases hpq : pk = qk
            · subst hpq
              have c := fun W => new2_yes pk pv qv W
              have HC2 := Lib.hid (HC.out.same (by omega) hp hq rfl)
              clear hp hq ht HC
              go_wp2_with (fail)
              go_quiet_grown (first | (go_at_call 87; exact Calls.grown_of (c _)))
              have HW2 := Lib.hid (HW.out.grown nq osq)
              clear g0 g1 g2 g3 HW
              generalize grow (wr.drewN nq) osq = w3 at HW2 ⊢
              clear nq osq
              go_wp2_with (fail)
              go_roundw
              case rel => exact ⟨m, j + 1, cur, rfl, by go_num, by omega, by omega, HC2.out, HW2.out⟩
              case measure => simp [intOf]; omega
            · have c := fun W => new2_no pk pv qk qv W hpq
              have HC2 := Lib.hid (HC.out.other (by omega) (by rw [HN.out]; omega) hp hq hpq)
              have HP := Lib.hid ((HC.out.suf (k + j) (by omega)).trans hp)
              obtain ⟨r, hr⟩ : ∃ r, cur[m]? = some r := ⟨_, List.getElem?_eq_getElem (by rw [HW.out.len]; omega)⟩
              clear hp hq ht hpq HC
              go_wp2_with (fail)
              go_quiet_grown (first | (go_at_call 87; exact Calls.grown_of (c _)))
              have HW2 := Lib.hid (HW.out.grown nq osq)
              clear g0 g1 g2 g3 HW
              generalize grow (wr.drewN nq) osq = w3 at HW2 ⊢
              clear nq osq
              obtain ⟨c0, c1, -, -⟩ := HW2.out.cell (k + j) _ HP.out
              obtain ⟨d0, d1, d2, d3⟩ := HW2.out.cell m r hr
              have HW3 := Lib.hid (HW2.out.put m (pk, pv))
              rw [show (k + j) * 2 = k * 2 + j * 2 by omega] at c0 c1
              dsimp only at c0 c1 d0 d1 HW3
              have hm0 : (0 : Int) ≤ (m : Int) := by omega
              have hmn : (m : Int) < (n : Int) := by omega
              clear HP hr HW2
              go_wp2_with (fail)
              go_roundw
              case rel => exact ⟨m + 1, j + 1, _, by go_num, by go_num, by omega, by omega, HC2.out, HW3.out⟩
              case measure => simp [intOf]; omega
          · have hjn : ¬ (j : Int) < (n : Int) - (k : Int) := by omega
            have hjn2 : ¬ (j : Int) < ((n - k : Nat) : Int) := by omega
            have hkjn : k + j = n := by omega
            have hmn : m < n := by omega
            have hm0 : (0 : Int) ≤ (m : Int) := by omega
            have hmnI : (m : Int) ≤ (n : Int) := by omega
            have hmcI : (m : Int) ≤ (cap : Int) := by omega
            have hmc : ¬ cap = m := by omega
            have hcl := fun ty => run_clear_prs wr ty g (m * 2) (n - m) (cap - m) (by omega)
              (fun i hi => by
                obtain ⟨r, hr⟩ : ∃ r, cur[m + i / 2]? = some r := ⟨_, List.getElem?_eq_getElem (by rw [HW.out.len]; omega)⟩
                obtain ⟨c0, c1, _, _⟩ := HW.out.cell _ r hr
                rcases Nat.mod_two_eq_zero_or_one i with e | e
                · rw [show m * 2 + i = (m + i / 2) * 2 by omega, c0]; rfl
                · rw [show m * 2 + i = (m + i / 2) * 2 + 1 by omega, c1]; rfl)
              (fun i hi => by
                obtain ⟨r, hr⟩ : ∃ r, cur[m + i / 2]? = some r := ⟨_, List.getElem?_eq_getElem (by rw [HW.out.len]; omega)⟩
                obtain ⟨_, _, c0, c1⟩ := HW.out.cell _ r hr
                rcases Nat.mod_two_eq_zero_or_one i with e | e
                · rw [show m * 2 + i = (m + i / 2) * 2 by omega, c0]
                · rw [show m * 2 + i = (m + i / 2) * 2 + 1 by omega, c1])
            have HF := Lib.hid (HW.out.row.cleared HW.out.len m (by omega) (List.replicate ((n - m) * 2) (.int .i64 0)))
            have HO := Lib.hid (HW.out.o.trans (only_cellsP g (List.replicate ((n - m) * 2) (.int .i64 0)) (m * 2) wr) (fun k hk _ => hk))
            have HE : Hid (cur.take m = ded l n ∧ m = (ded l n).length) := Lib.hid ⟨by rw [← hkjn]; exact HC.out.pre, by rw [← hkjn]; exact HC.out.hm⟩
            clear HC HW
            go_wp2_with (simp only [hcl])
            go_ret
            have hF := HF.out
            obtain ⟨e1, e2⟩ := HE.out
            rw [e1] at hF
            unfold CmpIs
            rw [← e2]
            exact ⟨rfl, hF, HO.out⟩
      · have c := fun W => new2_no pk pv qk qv W hpq
        have HD2 : Hid (ded l (k + 1) = l.take (k + 1)) := Lib.hid (by rw [ded_other (by omega) hp hq hpq, HD.out, List.take_add_one, hp]; rfl)
        clear hp hq hy hpq
        go_wp2_with (fail)
        go_quiet_grown (first | (go_at_call 87; exact Calls.grown_of (c _)))
        have HW2 := Lib.hid (HW.out.grown nq osq)
        clear g0 g1 g2 g3 HW
        generalize grow (wr.drewN nq) osq = w2 at HW2 ⊢
        clear nq osq
        go_wp2_with (fail)
        go_roundw
        case rel => exact ⟨k + 1, by go_num, by omega, by omega, HD2.out, HW2.out⟩
        case measure => simp [intOf]; omega
    · obtain rfl : k = n := by omega
      go_wp2_with (fail)
      go_ret
      have hd := HD.out
      have hn := HN.out
      rw [List.take_of_length_le (by omega)] at hd
      rw [hd]
      have hr := HW.out.row
      unfold CmpIs
      rw [hn]
      exact ⟨rfl, hr, HW.out.o⟩
end Go.Proofs.Ytijepfabkalcoaa
