/- slices.Reverse and slices.rotateCmpFunc on a row of pairs of one's own. No condition: lemmas. -/
import Derived.Test.YtadfnbmogobopaaMdA
namespace Go.Proofs.Ytadfnbmogobopaa
open Go.RowKit Go.Sort
set_option linter.all false

theorem swr_wk {w0 w : World} {S : Nat → Prop} {g n cap : Nat} {l : List Pr} (h : Wk2 w0 S g n cap w l) (a b k : Nat) (fv : Value) (hl : n ≤ 10000000) (ha : a + k ≤ n) (hb : b + k ≤ n) (hab : ¬ a = b) :
    Calls Try.prog 75 #[.slice (some ⟨g, 0, none⟩) n cap, .int .i64 a, .int .i64 b, .int .i64 k, fv] w fun e w' => e = .returned (.tuple #[]) ∧ Wk2 w0 S g n cap w' (swR l a b k) := by
  have hn := h.len
  subst hn
  exact (swr_any g cap a b k l S fv w h.row hl ha hb hab).mono (fun e w' hh => ⟨hh.1, h.hop hh.2⟩)

set_option maxRecDepth 100000 in
set_option maxHeartbeats 6400000 in
theorem rot_any (g cap n a m b : Nat) (A U V B : List Pr) (S : Nat → Prop) (fv : Value) (w w0 : World) (h : Wk2 w0 S g n cap w (A ++ U ++ V ++ B)) (hl : n ≤ 10000000) (ha : A.length = a) (hm : a + U.length = m) (hb : m + V.length = b) (hU : 0 < U.length) (hV : 0 < V.length) :
    Calls Try.prog 71 #[.slice (some ⟨g, 0, none⟩) n cap, .int .i64 a, .int .i64 m, .int .i64 b, fv] w fun e w' => e = .returned (.tuple #[]) ∧ Wk2 w0 S g n cap w' (A ++ V ++ U ++ B) := by
  have HS := Lib.hid h
  have HR := Lib.hid (Rot.start A U V B)
  rw [ha, hm] at HR
  have hbn : b ≤ n := by have := h.len; simp only [List.length_append] at this; omega
  have hi : (m : Int) - (a : Int) = (U.length : Int) := by omega
  have hj : (b : Int) - (m : Int) = (V.length : Int) := by omega
  clear h
  generalize A ++ U ++ V ++ B = cur0 at HS HR
  generalize A ++ V ++ U ++ B = T at HR ⊢
  generalize U.length = i0 at *
  generalize V.length = j0 at *
  clear ha
  clear A U V B
  have hbn2 : m + j0 ≤ n := by omega
  clear hm hb
  go_enter Try.func71, Try.ntmps71
  go_wp2_with (fail)
  go_loopw [10, 11] (fun x y wr => ∃ (i j : Nat) (cur : List Pr), x = .int .i64 i ∧ y = .int .i64 j ∧ 0 < i ∧ 0 < j ∧ Rot T m cur i j ∧ Wk2 w0 S g n cap wr cur) (fun x y _ => (intOf x).toNat + (intOf y).toNat)
  case atStart => exact ⟨i0, j0, cur0, by go_num, by go_num, hU, hV, HR.out, HS.out⟩
  case round =>
    clear HS HR
    obtain ⟨i, j, cur, rfl, rfl, hi0, hj0, hR, hW⟩ := hrel
    have HR := Lib.hid hR
    have HW := Lib.hid hW
    obtain ⟨bi, bj⟩ := hR.bounds
    rw [hW.len] at bj
    clear hR hW
    obtain ⟨x, hx⟩ : ∃ x : Nat, m - i = x := ⟨_, rfl⟩
    have hxI : (m : Int) - (i : Int) = (x : Int) := by omega
    by_cases hij : i = j
    · have hd := HR.out
      subst hij
      have hne : ¬ (i : Int) ≠ (i : Int) := by omega
      have c := fun W (hw : Wk2 w0 S g n cap W cur) => swr_wk hw x m i fv hl (by omega) bj (by omega)
      clear hi hj
      go_wp2_with (go_at_call 75; ((with_reducible refine (c _ HW.out).mono ?_); clear c; rintro e w2 ⟨rfl, hW2⟩))
      go_end0
      rw [← hx, hd.done] at hW2
      exact ⟨rfl, hW2⟩
    · have hne : ¬ (i : Int) = (j : Int) := by omega
      by_cases hlt : j < i
      · have hltI : (j : Int) < (i : Int) := by omega
        have c := fun W (hw : Wk2 w0 S g n cap W cur) => swr_wk hw x m j fv hl (by omega) bj (by omega)
        have HN := Lib.hid (HR.out.right hlt)
        rw [hx] at HN
        clear HR hi hj
        go_wp2_with (go_at_call 75; ((with_reducible refine (c _ HW.out).mono ?_); clear c; rintro e w2 ⟨rfl, hW2⟩))
        go_roundw
        case rel => exact ⟨i - j, j, _, by go_num, rfl, by omega, hj0, HN.out, hW2⟩
        case measure => simp [intOf]; omega
      · have hltI : ¬ (j : Int) < (i : Int) := by omega
        obtain ⟨y, hy⟩ : ∃ y : Nat, m + j - i = y := ⟨_, rfl⟩
        have hyI : (m : Int) + (j : Int) - (i : Int) = (y : Int) := by omega
        have c := fun W (hw : Wk2 w0 S g n cap W cur) => swr_wk hw x y i fv hl (by omega) (by omega) (by omega)
        have HN := Lib.hid (HR.out.left (by omega))
        rw [hx, hy] at HN
        clear HR hi hj
        go_wp2_with (go_at_call 75; ((with_reducible refine (c _ HW.out).mono ?_); clear c; rintro e w2 ⟨rfl, hW2⟩))
        go_roundw
        case rel => exact ⟨i, j - i, _, rfl, by go_num, hi0, by omega, HN.out, hW2⟩
        case measure => simp [intOf]; omega

set_option maxRecDepth 100000 in
set_option maxHeartbeats 6400000 in
theorem rev_any (g cap n : Nat) (l : List Pr) (S : Nat → Prop) (w : World) (h : PRow w S (.slice (some ⟨g, 0, none⟩) n cap) l) (hn : l.length = n) (hl : n ≤ 10000000) :
    Calls Try.prog 37 #[.slice (some ⟨g, 0, none⟩) n cap] w fun e w' => e = .returned (.tuple #[]) ∧ Wk2 w S g n cap w' l.reverse := by
  have HS := Lib.hid (Wk2.start h hn)
  have HN := Lib.hid hn
  clear h hn
  go_enter Try.func37, Try.ntmps37
  go_wp2_with (fail)
  go_loopw [2, 3] (fun x y wr => ∃ (i : Nat), x = .int .i64 i ∧ y = .int .i64 ((n : Int) - 1 - (i : Int)) ∧ 2 * i ≤ n ∧ Wk2 w S g n cap wr (rvR l i)) (fun x _ _ => n - (intOf x).toNat)
  case atStart => exact ⟨0, rfl, by go_num, by omega, HS.out⟩
  case round =>
    clear HS
    obtain ⟨i, rfl, rfl, hi, hW⟩ := hrel
    have HW := Lib.hid hW
    clear hW
    by_cases hlt : 2 * i + 1 < n
    · obtain ⟨y, hy⟩ : ∃ y : Nat, n - 1 - i = y := ⟨_, rfl⟩
      have hyI : (n : Int) - 1 - (i : Int) = (y : Int) := by omega
      rw [hyI]
      have hltI : (i : Int) < (y : Int) := by omega
      have hxy : ¬ i = y := by omega
      have hxl : (i : Int) < (n : Int) := by omega
      have hyl : (y : Int) < (n : Int) := by omega
      have hx0 : (0 : Int) ≤ (i : Int) := by omega
      have hy0 : (0 : Int) ≤ (y : Int) := by omega
      obtain ⟨p, hp⟩ : ∃ p, (rvR l i)[i]? = some p := ⟨_, List.getElem?_eq_getElem (by rw [rvR_len, HN.out]; omega)⟩
      obtain ⟨q, hq⟩ : ∃ q, (rvR l i)[y]? = some q := ⟨_, List.getElem?_eq_getElem (by rw [rvR_len, HN.out]; omega)⟩
      obtain ⟨p0, p1, p2, p3⟩ := HW.out.cell i p hp
      obtain ⟨q0, q1, q2, q3⟩ := HW.out.cell y q hq
      have HF := Lib.hid ((HW.out.swap i y p q hp hq).drew)
      obtain ⟨pk, pv⟩ := p
      obtain ⟨qk, qv⟩ := q
      dsimp only at p0 p1 q0 q1
      unfold swW at HF
      dsimp only at HF
      clear hp hq hyI
      go_wp2_with (fail)
      go_region
      go_wp2_with (fail)
      go_roundw
      case rel => exact ⟨i + 1, by go_num, by subst hy; go_num, by omega, by show Wk2 w S g n cap _ (swp (rvR l i) i (l.length - 1 - i)); rw [HN.out, hy]; exact HF.out⟩
      case measure => simp [intOf]; omega
    · have hltI : ¬ (i : Int) < (n : Int) - 1 - (i : Int) := by omega
      go_wp2_with (fail)
      go_end0
      refine ⟨rfl, ?_⟩
      have hW := HW.out
      have e := HN.out
      rw [rvR_all l i (by omega) (by omega)] at hW
      exact hW
end Go.Proofs.Ytadfnbmogobopaa
