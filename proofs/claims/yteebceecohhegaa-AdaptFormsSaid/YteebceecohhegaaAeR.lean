/- osierref1.up, Neighbour exactly. No condition: lemmas. -/
import Derived.Test.YteebceecohhegaaAeB
import Derived.Test.YteebceecohhegaaTsL
namespace Go.Proofs.Yteebceecohhegaa
open Go.RowKit
set_option linter.all false

set_option maxRecDepth 100000 in
set_option maxHeartbeats 6400000 in
theorem rup_any (t : Int) (a : Option Addr) (cap : Nat) (N : List Nd) (y : Int) (w : World) (hN : Ns w a cap N) (hl : N.length ≤ 10000) :
    Calls Try.prog 39 #[trv t a cap N, .int .i64 y] w fun e w' => (∃ n B, e = .returned (.tuple #[.int .i64 n, .bool B]) ∧ PaO N y n ∧ (n = -1 → B = false) ∧ ∀ (x : Nat) nx, n = x → N[x]? = some nx → B = (nx.b == y)) ∧ Below w.heap.size w w' := by
  have b1 : Below w.heap.size w (w.alloc (.cells #[.int .i64 t, .slice a N.length cap] 24)) := al1 _
  have HN := Lib.hid hN
  have HB := Lib.hid b1
  have hc1 := hN.1
  have hc2 := hN.2.1
  unfold maxLen at hc2
  unfold trv
  clear b1 hN
  go_enter Try.func39, Try.ntmps39
  go_wp2_with (fail)
  go_loopw [11] (fun j wr => ∃ n : Nat, n ≤ N.length ∧ j = .int .i64 n ∧ (∀ z ∈ N.take n, isPar z y = false) ∧ Below w.heap.size w wr) (fun j _ => N.length - (intOf j).toNat)
  case atStart => exact ⟨0, Nat.zero_le _, rfl, by simp, HB.out⟩
  case round =>
    obtain ⟨n, hn, rfl, hno, hb⟩ := hrel
    have HNO := Lib.hid hno
    have HBB := Lib.hid hb
    clear hno
    by_cases hlt : n < N.length
    · obtain ⟨x, hx⟩ : ∃ x, N[n]? = some x := ⟨_, List.getElem?_eq_getElem hlt⟩
      obtain ⟨b, o, pa, pc, rfl, hx1⟩ := (HN.out.keep hb).2.2 n x hx
      have hn0 : (0 : Int) ≤ (n : Int) := by omega
      have hnl : (n : Int) < (N.length : Int) := by omega
      have HX := Lib.hid hx
      obtain ⟨e0, e1, e2, e3, e4, e5, -⟩ := hx1
      obtain ⟨r, k, l, bb, p, st⟩ := x
      dsimp only at e0 e1 e2 e3 e4 e5
      have HB2 := Lib.hid (bel1 HBB.out (.cells #[.bool r, .int .i64 k, .int .i64 l, .int .i64 bb, .slice pa p.length pc, .int .i64 st] 47))
      have hnext : isPar ⟨r, k, l, bb, p, st⟩ y = false → ∀ z ∈ N.take (n + 1), isPar z y = false := fun hf z hz => by
        rw [List.take_succ, HX.out] at hz
        simp at hz
        rcases hz with hz | rfl
        · exact HNO.out z hz
        · exact hf
      have HNX := Lib.hid hnext
      clear hx hb hnext
      cases r
      · go_wp2_with (fail)
        go_roundw
        case rel => exact ⟨n + 1, by omega, by go_num, HNX.out rfl, HB2.out⟩
        case measure => simp [intOf]; omega
      · by_cases h1 : l = y
        · subst h1
          have hp : isPar ⟨true, k, l, bb, p, st⟩ l = true := by unfold isPar; simp
          have HPP := Lib.hid hp
          clear hp
          go_wp2_with (fail)
          go_quiet (fail)
          go_wp2_with (fail)
          refine bodyPost_ret (v := .tuple #[.int .i64 (n : Int), .bool (bb == l)]) (by simp [results, Try.results39, go_sem]) rfl ⟨⟨_, _, rfl, .inr ⟨n, _, rfl, HX.out, HPP.out, HNO.out⟩, fun h => by omega, fun x nx e hx => ?_⟩, below_drewN HB2.out _⟩
          obtain rfl : n = x := by omega
          rw [HX.out] at hx
          cases hx; rfl
        · have h1' : (l == y) = false := by simp [h1]
          by_cases h2 : bb = y
          · subst h2
            have hp : isPar ⟨true, k, l, bb, p, st⟩ bb = true := by unfold isPar; simp
            have HPP := Lib.hid hp
            clear hp
            go_wp2_with (fail)
            go_quiet (fail)
            go_wp2_with (fail)
            refine bodyPost_ret (v := .tuple #[.int .i64 (n : Int), .bool true]) (by simp [results, Try.results39, go_sem]) rfl ⟨⟨_, _, rfl, .inr ⟨n, _, rfl, HX.out, HPP.out, HNO.out⟩, fun h => by omega, fun x nx e hx => ?_⟩, below_drewN HB2.out _⟩
            obtain rfl : n = x := by omega
            rw [HX.out] at hx
            cases hx; simp
          · have h2' : (bb == y) = false := by simp [h2]
            have hp : isPar ⟨true, k, l, bb, p, st⟩ y = false := by unfold isPar; dsimp only; rw [h1', h2']; rfl
            have HPP := Lib.hid hp
            clear hp
            go_wp2_with (fail)
            go_roundw
            case rel => exact ⟨n + 1, by omega, by go_num, HNX.out HPP.out, HB2.out⟩
            case measure => simp [intOf]; omega
    · obtain rfl : n = N.length := by omega
      go_wp2_with (fail)
      refine bodyPost_ret (v := .tuple #[.int .i64 (-1), .bool false]) (by simp [results, Try.results39, go_sem]) rfl ⟨⟨_, _, rfl, .inl ⟨rfl, fun x hx => HNO.out x (by rw [List.take_of_length_le (Nat.le_refl _)]; exact hx)⟩, fun _ => rfl, fun x nx e => by omega⟩, HBB.out⟩
theorem rup_yes (t : Int) (a : Option Addr) (cap : Nat) (N : List Nd) (y : Int) (w : World) (hN : Ns w a cap N) (hl : N.length ≤ 10000) (x : Nat) (nx : Nd) (b : Bool) (hx : N[x]? = some nx) (hu : ∀ n, PaO N y n → n = x) (hb : (nx.b == y) = b) :
    Calls Try.prog 39 #[trv t a cap N, .int .i64 y] w fun e w' => e = .returned (.tuple #[.int .i64 (x : Int), .bool b]) ∧ Below w.heap.size w w' := by
  refine (rup_any t a cap N y w hN hl).mono (fun e w' hh => ?_)
  obtain ⟨⟨n, B, rfl, h1, _, h2⟩, hb2⟩ := hh
  obtain rfl := hu n h1
  rw [h2 x nx rfl hx, hb]
  exact ⟨rfl, hb2⟩
theorem rup_no (t : Int) (a : Option Addr) (cap : Nat) (N : List Nd) (y : Int) (w : World) (hN : Ns w a cap N) (hl : N.length ≤ 10000) (hu : ∀ n, PaO N y n → n = -1) :
    Calls Try.prog 39 #[trv t a cap N, .int .i64 y] w fun e w' => e = .returned (.tuple #[.int .i64 (-1), .bool false]) ∧ Below w.heap.size w w' := by
  refine (rup_any t a cap N y w hN hl).mono (fun e w' hh => ?_)
  obtain ⟨⟨n, B, rfl, h1, h2, _⟩, hb2⟩ := hh
  obtain rfl := hu n h1
  rw [h2 rfl]
  exact ⟨rfl, hb2⟩
#print axioms rup_any
/-- The other side of the route above a leaf. -/
theorem sibl {N : List Nd} {i : Nat} : ∀ {s : Sh} {t : Int} {lo hi : Option Int}, Hangs N s t lo hi → i ∈ s.lvs → isLf i s = false → ∃ x b z lo' hi', parA i s = some (x, b) ∧ Hangs N z (bif b then (nd N x).a else (nd N x).b) lo' hi' ∧ nextA i s = (if b = true then z.lvs.getLast? else z.lvs.head?) ∧ z.pre.length ≤ s.pre.length := by
  intro s
  induction s with
  | lf j => intro t lo hi _ hi' h; obtain ⟨_, _, _, e⟩ := not_lf hi' h; cases e
  | rt j l r ihl ihr =>
    intro t lo hi h hi' _
    obtain ⟨_, n, hn, hr, ho, hl, hrr⟩ := h
    have en := nd_of hn
    rcases ways (l := l) (r := r) hi' with rfl | ⟨h1, rfl⟩ | ⟨h1, h2, h3⟩ | ⟨h1, h2, h3, h4⟩
    · exact ⟨j, false, r, _, _, parA_1, by simp only [cond_false]; rw [en]; exact hrr, by rw [nextA_1, if_neg (by decide)], by simp [Sh.pre]; omega⟩
    · exact ⟨j, true, l, _, _, parA_2 h1, by simp only [cond_true]; rw [en]; exact hl, by rw [nextA_2 h1, if_pos rfl], by simp [Sh.pre]; omega⟩
    · obtain ⟨x, b, z, lo', hi', e1, e2, e3, e4⟩ := ihl hl h3 h1
      exact ⟨x, b, z, lo', hi', by rw [parA_3 h1 h2 h3, e1], e2, by rw [nextA_3 h1 h2 h3, e3], by simp [Sh.pre]; omega⟩
    · obtain ⟨x, b, z, lo', hi', e1, e2, e3, e4⟩ := ihr hrr h4 h2
      exact ⟨x, b, z, lo', hi', by rw [parA_4 h1 h2 h3, e1], e2, by rw [nextA_4 h1 h2 h3, e3], by simp [Sh.pre]; omega⟩
/-- isLeaf, in LfAt's words. -/
theorem rlf_any (t : Int) (a : Option Addr) (cap : Nat) (N : List Nd) (y : Int) (w : World) (hN : Ns w a cap N) (hsm : Small N) (B : Bool) (hB : B = true ↔ ∃ s i, LfAt N t y s i) :
    Calls Try.prog 32 #[trv t a cap N, .int .i64 y] w fun e w' => e = .returned (.bool B) ∧ Below w.heap.size w w' :=
  isleaf_any t a cap N w hN hsm y B (hB.trans lfAt_iff.symm)
/-- What holds all along. -/
structure KN (w : World) (t : Int) (a : Option Addr) (cap : Nat) (N : List Nd) (W : World) : Prop where
  g : Bk W w.heap.size [.int .i64 t, .slice a N.length cap]
  b : Below w.heap.size w W
theorem KN.keep {w : World} {t : Int} {a : Option Addr} {cap : Nat} {N : List Nd} {W W' : World} (h : KN w t a cap N W) (hb : Below W.heap.size W W') : KN w t a cap N W' := ⟨h.g.keep hb, bel2 h.b hb⟩
theorem KN.conj {w : World} {t : Int} {a : Option Addr} {cap : Nat} {N : List Nd} {W : World} (h : KN w t a cap N W) {p : Addr} {x : Value} (hx : w.cell? p = some x) :
    W.cell? ⟨w.heap.size, 0, none⟩ = some (.int .i64 t) ∧ W.cell? ⟨w.heap.size, 1, none⟩ = some (.slice a N.length cap) ∧ W.cell? p = some x ∧ KN w t a cap N W := ⟨h.g.at_ 0 _ rfl, h.g.at_ 1 _ rfl, kc h.b hx, h⟩
theorem ri_get {W : World} {ao : Option Addr} {c : Nat} {l : List Nat} (h : RI W ao c (preI l)) {j i : Nat} (hj : l[j]? = some i) : ∃ b o, ao = some ⟨b, o, none⟩ ∧ W.cell? ⟨b, o + j, none⟩ = some (.int .i64 (i : Int)) := h.2.2 j _ (preI_get hj)
set_option maxRecDepth 100000 in
set_option maxHeartbeats 6400000 in
theorem rnb_no (t : Int) (a : Option Addr) (cap : Nat) (N : List Nd) (y : Int) (w : World) (hN : Ns w a cap N) (hsm : Small N) (h : ¬ ∃ s i, LfAt N t y s i) :
    Calls Try.prog 17 #[trv t a cap N, .int .i64 y] w fun e w' => e = .returned (.int .i64 (-1)) ∧ Below w.heap.size w w' := by
  have b1 : Below w.heap.size w (w.alloc (.cells #[.int .i64 t, .slice a N.length cap] 24)) := al1 _
  have ci := rlf_any t a cap N y _ (hN.keep b1) hsm false ⟨fun e => (by cases e), fun e => absurd e h⟩
  have HB := Lib.hid b1
  unfold trv at ci ⊢
  clear b1 hN h hsm
  go_enter Try.func17, Try.ntmps17
  go_wp2_with (go_at_call 32; ((with_reducible refine ci.mono ?_); clear ci; rintro e w3 ⟨rfl, hb3⟩))
  go_ret
  exact ⟨rfl, bel2 HB.out hb3⟩
set_option maxRecDepth 100000 in
set_option maxHeartbeats 6400000 in
theorem rnb_alone (t : Int) (a : Option Addr) (cap : Nat) (N : List Nd) (s : Sh) (i : Nat) (w : World) (hN : Ns w a cap N) (hsm : Small N) (h : LfAt N t (i : Int) s i) (hl : isLf i s = true) :
    Calls Try.prog 17 #[trv t a cap N, .int .i64 (i : Int)] w fun e w' => e = .returned (.int .i64 (-1)) ∧ Below w.heap.size w w' := by
  have b1 : Below w.heap.size w (w.alloc (.cells #[.int .i64 t, .slice a N.length cap] 24)) := al1 _
  have ci := rlf_any t a cap N (i : Int) _ (hN.keep b1) hsm true ⟨fun _ => ⟨s, i, h⟩, fun _ => rfl⟩
  have ca := fun (W : World) (hW : Ns W a cap N) => rup_no t a cap N (i : Int) W hW (by have := hsm.1; omega) (fun n hn => alone_pa h.1 hl hn)
  have B1 := Lib.hid (Bk.new w #[.int .i64 t, .slice a N.length cap] 24)
  have HB := Lib.hid b1
  have HN := Lib.hid hN
  unfold trv at ci ca ⊢
  clear b1 hN h hsm hl
  go_enter Try.func17, Try.ntmps17
  go_wp2_with (first
    | (go_at_call 32; ((with_reducible refine ci.mono ?_); clear ci; rintro e w3 ⟨rfl, hb3⟩; have HB3 := Lib.hid (bel2 HB.out hb3); have R1 := Lib.hid (B1.out.keep hb3); clear hb3; have k0 := R1.out.at_ 0 _ rfl; have k1 := R1.out.at_ 1 _ rfl))
    | (go_at_call 39; ((with_reducible refine (ca _ (HN.out.keep HB3.out)).mono ?_); clear ca; rintro e w4 ⟨rfl, hb4⟩))
    | fail)
  go_ret
  exact ⟨rfl, bel2 HB3.out hb4⟩
set_option maxRecDepth 100000 in
set_option maxHeartbeats 6400000 in
theorem rnb_right (t : Int) (a : Option Addr) (cap : Nat) (N : List Nd) (s : Sh) (i k : Nat) (w : World) (hN : Ns w a cap N) (hsm : Small N) (h : LfAt N t (i : Int) s i) (x : Nat) (nx : Nd) (hx : N[x]? = some nx) (hu : ∀ n, PaO N i n → n = x) (hb : (nx.b == (i : Int)) = true)
    (z : Sh) (lo hi : Option Int) (hz : Hangs N z nx.a lo hi) (hzl : z.lvs.length ≤ 2000) (hk : z.lvs.getLast? = some k) :
    Calls Try.prog 17 #[trv t a cap N, .int .i64 (i : Int)] w fun e w' => e = .returned (.int .i64 (k : Int)) ∧ Below w.heap.size w w' := by
  have b1 : Below w.heap.size w (w.alloc (.cells #[.int .i64 t, .slice a N.length cap] 24)) := al1 _
  have ci := rlf_any t a cap N (i : Int) _ (hN.keep b1) hsm true ⟨fun _ => ⟨s, i, h⟩, fun _ => rfl⟩
  have ca := fun (W : World) (hW : Ns W a cap N) => rup_yes t a cap N (i : Int) W hW (by have := hsm.1; omega) x nx true hx hu hb
  have B1 := Lib.hid (show KN w t a cap N (w.alloc (.cells #[.int .i64 t, .slice a N.length cap] 24)) from ⟨Bk.new w #[.int .i64 t, .slice a N.length cap] 24, b1⟩)
  have HN := Lib.hid hN
  have hxl := (List.getElem?_eq_some_iff.1 hx).1
  have hc1 := hN.1
  have hc2 := hN.2.1
  unfold maxLen at hc2
  have hx0 : (0 : Int) ≤ (x : Int) := by omega
  have hx1 : (x : Int) < (N.length : Int) := by omega
  obtain ⟨b, o, pa, pc, rfl, hnx⟩ := hN.2.2 x nx hx
  have HE := Lib.hid hnx.c2
  have hzp := lvs_pos z
  generalize nx.a = v at HE hz
  have cv : ∀ (W : World) (_ : Below w.heap.size w W), Calls Try.prog 43 #[.agg #[.int .i64 t, .slice (some ⟨b, o, none⟩) N.length cap], .int .i64 v, .slice none 0 0] W fun e w' => (∃ ao c, e = .returned (.slice ao z.lvs.length c) ∧ RI w' ao c (preI z.lvs)) ∧ Below W.heap.size W w' := by
    intro W hW
    refine (leaves_any (hN.keep hW) hsm z v lo hi hz W none 0 [] (by simp; omega) (Below.refl _ _) (Nums.nil _ _)).mono (fun e w' hh => ?_)
    obtain ⟨ao, c, rfl, hws⟩ := hh
    rw [List.nil_append, preI_len] at hws ⊢
    refine ⟨⟨ao, c, rfl, ?_⟩, hws.below (Below.refl _ _) (Nat.le_refl _) (fun k hk => by simp [Value.ownBlock] at hk)⟩
    exact hws.n.ri
  have hjk : z.lvs[z.lvs.length - 1]? = some k := by
    rw [← List.getLast?_eq_getElem?]; exact hk
  have HJ := Lib.hid hjk
  have hjl := (List.getElem?_eq_some_iff.1 hjk).1
  have hw1 : wrap64 ((z.lvs.length : Int) - 1) = (z.lvs.length : Int) - 1 := by unfold wrap64; omega
  have hj0 : (0 : Int) ≤ (z.lvs.length : Int) - 1 := by omega
  have hj1 : (z.lvs.length : Int) - 1 < (z.lvs.length : Int) := by omega
  unfold trv at ci ca ⊢
  clear b1 hN h hsm hx hu hb hz hk hnx hjk
  go_enter Try.func17, Try.ntmps17
  go_upto_region 7 with (first
    | (go_at_call 32; ((with_reducible refine ci.mono ?_); clear ci; rintro e w3 ⟨rfl, hb3⟩; have K3 := Lib.hid (KN.keep B1.out hb3); clear hb3; have k0 := K3.out.g.at_ 0 _ rfl; have k1 := K3.out.g.at_ 1 _ rfl))
    | (go_at_call 39; ((with_reducible refine (ca _ (HN.out.keep K3.out.b)).mono ?_); clear ca k0 k1; rintro e w4 ⟨rfl, hb4⟩; have K4 := Lib.hid (KN.keep K3.out hb4); clear hb4))
    | fail)
  refine wp_region_held_drew (S := (fun W => W.cell? ⟨w.heap.size, 0, none⟩ = some (.int .i64 t) ∧ W.cell? ⟨w.heap.size, 1, none⟩ = some (.slice (some ⟨b, o, none⟩) N.length cap) ∧ W.cell? ⟨b, o + x * 6 + 2, none⟩ = some (.int .i64 v) ∧ KN w t (some ⟨b, o, none⟩) cap N W)) (by kernel_rfl) (by first | exact KN.conj K4.out HE.out | exact KN.conj (K4.out.keep (Below.refl _ _).drew) HE.out) (fun hHeld => ?_)
  refine wpAnyH_take (i := 0) (v := ?_) rfl (by kernel_rfl) (by kernel_rfl) (by kernel_rfl) (fun _ _ _ h => h) (Or.inl ⟨by rfl, ?_⟩) hHeld ?_
  rotate_left
  · (intro wS hSw; (try dsimp only at hSw); (try go_split_ands); go_simp; try with_reducible rfl)
  try simp only [List.getElem_toArray, List.getElem_cons_succ, List.getElem_cons_zero, Act.put, List.setIfInBounds_toArray, List.set_cons_zero, List.set_cons_succ]
  refine wpAnyH_take (i := 1) (v := ?_) rfl (by kernel_rfl) (by kernel_rfl) (by kernel_rfl) (fun _ _ _ h => h) (Or.inl ⟨by rfl, ?_⟩) hHeld ?_
  rotate_left
  · (intro wS hSw; (try dsimp only at hSw); (try go_split_ands); go_simp; try with_reducible rfl)
  try simp only [List.getElem_toArray, List.getElem_cons_succ, List.getElem_cons_zero, Act.put, List.setIfInBounds_toArray, List.set_cons_zero, List.set_cons_succ]
  refine wpAnyH_take (i := 2) (v := ?_) rfl (by kernel_rfl) (by kernel_rfl) (by kernel_rfl) (fun _ _ _ h => h) (Or.inl ⟨by rfl, ?_⟩) hHeld ?_
  rotate_left
  · (intro wS hSw; (try dsimp only at hSw); (try go_split_ands); go_simp; try with_reducible rfl)
  try simp only [List.getElem_toArray, List.getElem_cons_succ, List.getElem_cons_zero, Act.put, List.setIfInBounds_toArray, List.set_cons_zero, List.set_cons_succ]
  refine wpAnyH_take (i := 3) (v := ?_) rfl (by kernel_rfl) (by kernel_rfl) (by kernel_rfl) (fun _ _ _ h => h) (Or.inl ⟨by rfl, ?_⟩) hHeld ?_
  rotate_left
  · (intro wS hSw; (try dsimp only at hSw); (try go_split_ands); go_simp; try with_reducible rfl)
  try simp only [List.getElem_toArray, List.getElem_cons_succ, List.getElem_cons_zero, Act.put, List.setIfInBounds_toArray, List.set_cons_zero, List.set_cons_succ]
  refine wpAnyH_take (i := 4) (v := ?_) rfl (by kernel_rfl) (by kernel_rfl) (by kernel_rfl) (fun _ _ _ h => h) (Or.inl ⟨by rfl, ?_⟩) hHeld ?_
  rotate_left
  · (intro wS hSw; (try dsimp only at hSw); (try go_split_ands); go_simp; try with_reducible rfl)
  try simp only [List.getElem_toArray, List.getElem_cons_succ, List.getElem_cons_zero, Act.put, List.setIfInBounds_toArray, List.set_cons_zero, List.set_cons_succ]
  refine wpAnyH_take (i := 5) (v := ?_) rfl (by kernel_rfl) (by kernel_rfl) (by kernel_rfl) (fun _ _ _ h => h) (Or.inl ⟨by rfl, ?_⟩) hHeld ?_
  rotate_left
  · (intro wS hSw; (try dsimp only at hSw); (try go_split_ands); go_simp; try with_reducible rfl)
  try simp only [List.getElem_toArray, List.getElem_cons_succ, List.getElem_cons_zero, Act.put, List.setIfInBounds_toArray, List.set_cons_zero, List.set_cons_succ]
  refine wpAnyH_take (i := 6) (v := ?_) rfl (by kernel_rfl) (by kernel_rfl) (by kernel_rfl) (fun _ _ _ h => h) (Or.inl ⟨by rfl, ?_⟩) hHeld ?_
  rotate_left
  · (intro wS hSw; (try dsimp only at hSw); (try go_split_ands); go_simp; try with_reducible rfl)
  try simp only [List.getElem_toArray, List.getElem_cons_succ, List.getElem_cons_zero, Act.put, List.setIfInBounds_toArray, List.set_cons_zero, List.set_cons_succ]
  refine wpAnyH_ready (rs := [7]) (by kernel_rfl) (by simp) ?_
  refine AllReadyH.cons rfl (fun K hK => ?_) AllReadyH.nil
  go_simp
  (go_at_call 43; ((with_reducible refine (cv _ hHeld.2.2.2.b).mono ?_); rintro e X ⟨⟨ao, c, rfl, hrX⟩, hbX⟩))
  refine hK.out _ _ ?_ (fun hNext => ?_)
  · exact KN.conj (hHeld.2.2.2.keep hbX) HE.out
  have HX := Lib.hid (bel2 hHeld.2.2.2.b hbX)
  obtain ⟨bl, ol, rfl, cl⟩ := ri_get hrX HJ.out
  have hrc := hrX.1
  have hrm := hrX.2.1
  unfold maxLen at hrm
  rw [preI_len] at hrc
  clear hrX hbX
  clear hK K hHeld
  have hHeld := hNext
  clear hNext
  try simp only [List.getElem_toArray, List.getElem_cons_succ, List.getElem_cons_zero, Act.put, List.setIfInBounds_toArray, List.set_cons_zero, List.set_cons_succ]
  refine wpAnyH_take (i := 8) (v := ?_) rfl (by kernel_rfl) (by kernel_rfl) (by kernel_rfl) (fun _ _ _ h => h) (Or.inl ⟨by rfl, ?_⟩) hHeld ?_
  rotate_left
  · (intro wS hSw; (try dsimp only at hSw); (try go_split_ands); go_simp; try with_reducible rfl)
  try simp only [List.getElem_toArray, List.getElem_cons_succ, List.getElem_cons_zero, Act.put, List.setIfInBounds_toArray, List.set_cons_zero, List.set_cons_succ]
  refine wpAnyH_done (by kernel_rfl) ?_ _
  clear hHeld
  go_wp2_with (fail)
  go_ret
  exact ⟨rfl, HX.out⟩
set_option maxRecDepth 100000 in
set_option maxHeartbeats 6400000 in
theorem rnb_left (t : Int) (a : Option Addr) (cap : Nat) (N : List Nd) (s : Sh) (i k : Nat) (w : World) (hN : Ns w a cap N) (hsm : Small N) (h : LfAt N t (i : Int) s i) (x : Nat) (nx : Nd) (hx : N[x]? = some nx) (hu : ∀ n, PaO N i n → n = x) (hb : (nx.b == (i : Int)) = false)
    (z : Sh) (lo hi : Option Int) (hz : Hangs N z nx.b lo hi) (hzl : z.lvs.length ≤ 2000) (hk : z.lvs.head? = some k) :
    Calls Try.prog 17 #[trv t a cap N, .int .i64 (i : Int)] w fun e w' => e = .returned (.int .i64 (k : Int)) ∧ Below w.heap.size w w' := by
  have b1 : Below w.heap.size w (w.alloc (.cells #[.int .i64 t, .slice a N.length cap] 24)) := al1 _
  have ci := rlf_any t a cap N (i : Int) _ (hN.keep b1) hsm true ⟨fun _ => ⟨s, i, h⟩, fun _ => rfl⟩
  have ca := fun (W : World) (hW : Ns W a cap N) => rup_yes t a cap N (i : Int) W hW (by have := hsm.1; omega) x nx false hx hu hb
  have B1 := Lib.hid (show KN w t a cap N (w.alloc (.cells #[.int .i64 t, .slice a N.length cap] 24)) from ⟨Bk.new w #[.int .i64 t, .slice a N.length cap] 24, b1⟩)
  have HN := Lib.hid hN
  have hxl := (List.getElem?_eq_some_iff.1 hx).1
  have hc1 := hN.1
  have hc2 := hN.2.1
  unfold maxLen at hc2
  have hx0 : (0 : Int) ≤ (x : Int) := by omega
  have hx1 : (x : Int) < (N.length : Int) := by omega
  obtain ⟨b, o, pa, pc, rfl, hnx⟩ := hN.2.2 x nx hx
  have HE := Lib.hid hnx.c3
  have hzp := lvs_pos z
  generalize nx.b = v at HE hz
  have cv : ∀ (W : World) (_ : Below w.heap.size w W), Calls Try.prog 43 #[.agg #[.int .i64 t, .slice (some ⟨b, o, none⟩) N.length cap], .int .i64 v, .slice none 0 0] W fun e w' => (∃ ao c, e = .returned (.slice ao z.lvs.length c) ∧ RI w' ao c (preI z.lvs)) ∧ Below W.heap.size W w' := by
    intro W hW
    refine (leaves_any (hN.keep hW) hsm z v lo hi hz W none 0 [] (by simp; omega) (Below.refl _ _) (Nums.nil _ _)).mono (fun e w' hh => ?_)
    obtain ⟨ao, c, rfl, hws⟩ := hh
    rw [List.nil_append, preI_len] at hws ⊢
    refine ⟨⟨ao, c, rfl, ?_⟩, hws.below (Below.refl _ _) (Nat.le_refl _) (fun k hk => by simp [Value.ownBlock] at hk)⟩
    exact hws.n.ri
  have hjk : z.lvs[0]? = some k := by
    rw [← List.head?_eq_getElem?]; exact hk
  have HJ := Lib.hid hjk
  have hjl := (List.getElem?_eq_some_iff.1 hjk).1
  have hj1 : (0 : Int) < (z.lvs.length : Int) := by omega
  unfold trv at ci ca ⊢
  clear b1 hN h hsm hx hu hb hz hk hnx hjk
  go_enter Try.func17, Try.ntmps17
  go_upto_region 9 with (first
    | (go_at_call 32; ((with_reducible refine ci.mono ?_); clear ci; rintro e w3 ⟨rfl, hb3⟩; have K3 := Lib.hid (KN.keep B1.out hb3); clear hb3; have k0 := K3.out.g.at_ 0 _ rfl; have k1 := K3.out.g.at_ 1 _ rfl))
    | (go_at_call 39; ((with_reducible refine (ca _ (HN.out.keep K3.out.b)).mono ?_); clear ca k0 k1; rintro e w4 ⟨rfl, hb4⟩; have K4 := Lib.hid (KN.keep K3.out hb4); clear hb4))
    | fail)
  refine wp_region_held_drew (S := (fun W => W.cell? ⟨w.heap.size, 0, none⟩ = some (.int .i64 t) ∧ W.cell? ⟨w.heap.size, 1, none⟩ = some (.slice (some ⟨b, o, none⟩) N.length cap) ∧ W.cell? ⟨b, o + x * 6 + 3, none⟩ = some (.int .i64 v) ∧ KN w t (some ⟨b, o, none⟩) cap N W)) (by kernel_rfl) (by first | exact KN.conj K4.out HE.out | exact KN.conj (K4.out.keep (Below.refl _ _).drew) HE.out) (fun hHeld => ?_)
  refine wpAnyH_take (i := 0) (v := ?_) rfl (by kernel_rfl) (by kernel_rfl) (by kernel_rfl) (fun _ _ _ h => h) (Or.inl ⟨by rfl, ?_⟩) hHeld ?_
  rotate_left
  · (intro wS hSw; (try dsimp only at hSw); (try go_split_ands); go_simp; try with_reducible rfl)
  try simp only [List.getElem_toArray, List.getElem_cons_succ, List.getElem_cons_zero, Act.put, List.setIfInBounds_toArray, List.set_cons_zero, List.set_cons_succ]
  refine wpAnyH_take (i := 1) (v := ?_) rfl (by kernel_rfl) (by kernel_rfl) (by kernel_rfl) (fun _ _ _ h => h) (Or.inl ⟨by rfl, ?_⟩) hHeld ?_
  rotate_left
  · (intro wS hSw; (try dsimp only at hSw); (try go_split_ands); go_simp; try with_reducible rfl)
  try simp only [List.getElem_toArray, List.getElem_cons_succ, List.getElem_cons_zero, Act.put, List.setIfInBounds_toArray, List.set_cons_zero, List.set_cons_succ]
  refine wpAnyH_take (i := 2) (v := ?_) rfl (by kernel_rfl) (by kernel_rfl) (by kernel_rfl) (fun _ _ _ h => h) (Or.inl ⟨by rfl, ?_⟩) hHeld ?_
  rotate_left
  · (intro wS hSw; (try dsimp only at hSw); (try go_split_ands); go_simp; try with_reducible rfl)
  try simp only [List.getElem_toArray, List.getElem_cons_succ, List.getElem_cons_zero, Act.put, List.setIfInBounds_toArray, List.set_cons_zero, List.set_cons_succ]
  refine wpAnyH_take (i := 3) (v := ?_) rfl (by kernel_rfl) (by kernel_rfl) (by kernel_rfl) (fun _ _ _ h => h) (Or.inl ⟨by rfl, ?_⟩) hHeld ?_
  rotate_left
  · (intro wS hSw; (try dsimp only at hSw); (try go_split_ands); go_simp; try with_reducible rfl)
  try simp only [List.getElem_toArray, List.getElem_cons_succ, List.getElem_cons_zero, Act.put, List.setIfInBounds_toArray, List.set_cons_zero, List.set_cons_succ]
  refine wpAnyH_take (i := 4) (v := ?_) rfl (by kernel_rfl) (by kernel_rfl) (by kernel_rfl) (fun _ _ _ h => h) (Or.inl ⟨by rfl, ?_⟩) hHeld ?_
  rotate_left
  · (intro wS hSw; (try dsimp only at hSw); (try go_split_ands); go_simp; try with_reducible rfl)
  try simp only [List.getElem_toArray, List.getElem_cons_succ, List.getElem_cons_zero, Act.put, List.setIfInBounds_toArray, List.set_cons_zero, List.set_cons_succ]
  refine wpAnyH_take (i := 5) (v := ?_) rfl (by kernel_rfl) (by kernel_rfl) (by kernel_rfl) (fun _ _ _ h => h) (Or.inl ⟨by rfl, ?_⟩) hHeld ?_
  rotate_left
  · (intro wS hSw; (try dsimp only at hSw); (try go_split_ands); go_simp; try with_reducible rfl)
  try simp only [List.getElem_toArray, List.getElem_cons_succ, List.getElem_cons_zero, Act.put, List.setIfInBounds_toArray, List.set_cons_zero, List.set_cons_succ]
  refine wpAnyH_take (i := 6) (v := ?_) rfl (by kernel_rfl) (by kernel_rfl) (by kernel_rfl) (fun _ _ _ h => h) (Or.inl ⟨by rfl, ?_⟩) hHeld ?_
  rotate_left
  · (intro wS hSw; (try dsimp only at hSw); (try go_split_ands); go_simp; try with_reducible rfl)
  try simp only [List.getElem_toArray, List.getElem_cons_succ, List.getElem_cons_zero, Act.put, List.setIfInBounds_toArray, List.set_cons_zero, List.set_cons_succ]
  refine wpAnyH_ready (rs := [7]) (by kernel_rfl) (by simp) ?_
  refine AllReadyH.cons rfl (fun K hK => ?_) AllReadyH.nil
  go_simp
  (go_at_call 43; ((with_reducible refine (cv _ hHeld.2.2.2.b).mono ?_); rintro e X ⟨⟨ao, c, rfl, hrX⟩, hbX⟩))
  refine hK.out _ _ ?_ (fun hNext => ?_)
  · exact KN.conj (hHeld.2.2.2.keep hbX) HE.out
  have HX := Lib.hid (bel2 hHeld.2.2.2.b hbX)
  obtain ⟨bl, ol, rfl, cl⟩ := ri_get hrX HJ.out
  have hrc := hrX.1
  have hrm := hrX.2.1
  unfold maxLen at hrm
  rw [preI_len] at hrc
  have cl : X.cell? ⟨bl, ol, none⟩ = some (.int .i64 (k : Int)) := cl
  clear hrX hbX
  clear hK K hHeld
  have hHeld := hNext
  clear hNext
  try simp only [List.getElem_toArray, List.getElem_cons_succ, List.getElem_cons_zero, Act.put, List.setIfInBounds_toArray, List.set_cons_zero, List.set_cons_succ]
  refine wpAnyH_take (i := 8) (v := ?_) rfl (by kernel_rfl) (by kernel_rfl) (by kernel_rfl) (fun _ _ _ h => h) (Or.inl ⟨by rfl, ?_⟩) hHeld ?_
  rotate_left
  · (intro wS hSw; (try dsimp only at hSw); (try go_split_ands); go_simp; try with_reducible rfl)
  try simp only [List.getElem_toArray, List.getElem_cons_succ, List.getElem_cons_zero, Act.put, List.setIfInBounds_toArray, List.set_cons_zero, List.set_cons_succ]
  refine wpAnyH_ready (rs := [9]) (by kernel_rfl) (by simp) ?_
  refine AllReadyH.cons rfl (fun K hK => ?_) AllReadyH.nil
  go_simp
  refine hK.out _ _ ?_ (fun hNext => ?_)
  · exact hHeld
  clear hK K hHeld
  have hHeld := hNext
  clear hNext
  try simp only [List.getElem_toArray, List.getElem_cons_succ, List.getElem_cons_zero, Act.put, List.setIfInBounds_toArray, List.set_cons_zero, List.set_cons_succ]
  refine wpAnyH_take (i := 10) (v := ?_) rfl (by kernel_rfl) (by kernel_rfl) (by kernel_rfl) (fun _ _ _ h => h) (Or.inl ⟨by rfl, ?_⟩) hHeld ?_
  rotate_left
  · (intro wS hSw; (try dsimp only at hSw); (try go_split_ands); go_simp; try with_reducible rfl)
  try simp only [List.getElem_toArray, List.getElem_cons_succ, List.getElem_cons_zero, Act.put, List.setIfInBounds_toArray, List.set_cons_zero, List.set_cons_succ]
  refine wpAnyH_done (by kernel_rfl) ?_ _
  clear hHeld
  go_wp2_with (fail)
  go_ret
  exact ⟨rfl, HX.out⟩
/-- osierref1.Neighbour. -/
theorem rnb_any (t : Int) (a : Option Addr) (cap : Nat) (N : List Nd) (y : Int) (w : World) (hN : Ns w a cap N) (hsm : Small N) (k : Option Nat) (h : NxtO N t y k) (v : Int) (hv : v = match k with | none => -1 | some n => (n : Int)) :
    Calls Try.prog 17 #[trv t a cap N, .int .i64 y] w fun e w' => e = .returned (.int .i64 v) ∧ Below w.heap.size w w' := by
  subst hv
  rcases h with ⟨s, i, n, h, hl, hk, rfl⟩ | ⟨rfl, h⟩
  · obtain rfl := h.2.1
    obtain ⟨x, b, k', m, nx, e1, e2, e3, e4, e5, e6⟩ := beside h.1 h.2.2 hl
    obtain ⟨x', b', z, lo, hi, f1, f2, f3, f4⟩ := sibl h.1.hg h.2.2 hl
    rw [e1] at f1
    cases f1
    rw [hk] at f3
    rw [nd_of e3] at f2
    have hzl : z.lvs.length ≤ 2000 := by have := lvs_len z; have := h.1.all; have := h.1.le; omega
    rcases e6 with ⟨rfl, fa, fb, _⟩ | ⟨rfl, fa, fb, _⟩
    · exact rnb_left t a cap N s i n w hN hsm h x nx e3 e5 (by simp [fb]) z lo hi f2 hzl (by rw [f3, if_neg (by decide)])
    · exact rnb_right t a cap N s i n w hN hsm h x nx e3 e5 (by simp [fa]) z lo hi f2 hzl (by rw [f3, if_pos rfl])
  · rcases Classical.em (∃ s i, LfAt N t y s i) with ⟨s, i, h2⟩ | h2
    · have hl : isLf i s = true := by
        cases e : isLf i s
        · exact absurd ⟨s, i, h2, e⟩ h
        · rfl
      obtain rfl := h2.2.1
      exact rnb_alone t a cap N s i w hN hsm h2 hl
    · exact rnb_no t a cap N y w hN hsm h2
#print axioms rnb_any
end Go.Proofs.Yteebceecohhegaa
