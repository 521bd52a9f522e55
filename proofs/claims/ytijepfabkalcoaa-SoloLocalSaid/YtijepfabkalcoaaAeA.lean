/- slices.Index and Contains over ints; adapt.isLeaf, adapt.above exactly. No condition: lemmas. adapt.Next exactly. No condition: lemmas. -/
import Derived.Test.YtijepfabkalcoaaTrU
import Derived.Test.YtijepfabkalcoaaAeM
import Derived.OwnWalk
namespace Go.Proofs.Ytijepfabkalcoaa
open Go.RowKit
set_option linter.all false

/-- Where a number stands first. -/
def Fst (L : List Int) (x n : Int) : Prop := (n = -1 ∧ x ∉ L) ∨ ∃ i : Nat, n = i ∧ i < L.length ∧ L[i]? = some x ∧ x ∉ L.take i
set_option maxRecDepth 100000 in
set_option maxHeartbeats 3200000 in
theorem ixI_any (ao : Option Addr) (c : Nat) (L : List Int) (x : Int) (w : World) (h : RI w ao c L) :
    Calls Try.prog 44 #[.slice ao L.length c, .int .i64 x] w fun e w' => (∃ n : Int, e = .returned (.int .i64 n) ∧ Fst L x n) ∧ w' = w := by
  have HH := Lib.hid h
  have hc1 := h.1
  have hc2 := h.2.1
  clear h
  unfold maxLen at hc2
  go_enter Try.func44, Try.ntmps44
  go_wp2_with (fail)
  go_loopw [8] (fun i wr => ∃ n : Nat, n ≤ L.length ∧ i = .int .i64 n ∧ (x ∉ L.take n) ∧ wr = w) (fun i _ => L.length - (intOf i).toNat)
  case atStart => exact ⟨0, Nat.zero_le _, rfl, by simp, rfl⟩
  case round =>
    obtain ⟨n, hn, rfl, hno, rfl⟩ := hrel
    have HNO := Lib.hid hno
    clear hno
    by_cases hlt : n < L.length
    · obtain ⟨q, hq⟩ : ∃ q, L[n]? = some q := ⟨_, List.getElem?_eq_getElem hlt⟩
      obtain ⟨b, o, rfl, c0⟩ := HH.out.2.2 n q hq
      have HQ := Lib.hid hq
      clear hq
      by_cases he : x = q
      · subst he
        go_wp2_with (fail)
        go_ret
        exact ⟨⟨_, rfl, .inr ⟨n, rfl, hlt, HQ.out, HNO.out⟩⟩, rfl⟩
      · have he' : (x == q) = false := by simp [he]
        go_wp2_with (fail)
        go_roundw
        case rel =>
          refine ⟨n + 1, by omega, by go_num, fun hz => ?_, by trivial⟩
          rw [List.take_succ, HQ.out] at hz
          simp at hz
          rcases hz with hz | hz
          · exact HNO.out hz
          · exact he hz
        case measure => simp [intOf]; omega
    · obtain rfl : n = L.length := by omega
      go_wp2_with (fail)
      go_ret
      exact ⟨⟨_, rfl, .inl ⟨rfl, fun h => HNO.out (by rw [List.take_of_length_le (Nat.le_refl _)]; exact h)⟩⟩, rfl⟩
theorem ctI_any (ao : Option Addr) (c : Nat) (L : List Int) (x : Int) (w : World) (h : RI w ao c L) (B : Bool) (hB : B = true ↔ x ∈ L) :
    Calls Try.prog 123 #[.slice ao L.length c, .int .i64 x] w fun e w' => e = .returned (.bool B) ∧ w' = w := by
  have cx := ixI_any ao c L x w h
  have HB := Lib.hid hB
  clear hB
  go_enter Try.func123, Try.ntmps123
  go_wp2_with (go_at_call 44; ((with_reducible refine cx.mono ?_); clear cx; rintro e w2 ⟨⟨n, rfl, hn⟩, rfl⟩))
  have hd : decide (0 ≤ n) = B := by
    rcases hn with ⟨rfl, hn⟩ | ⟨i, rfl, _, hi, _⟩
    · cases B
      · rfl
      · exact absurd (HB.out.1 rfl) hn
    · rw [HB.out.2 (List.mem_of_getElem? hi)]; exact decide_eq_true (by omega)
  go_ret
  exact ⟨by rw [hd]; rfl, rfl⟩

/-- adapt.isLeaf. -/
theorem ailf_any (t : Int) (a : Option Addr) (cap : Nat) (N : List Nd) (y : Int) (w : World) (hN : Ns w a cap N) (hsm : Small N) (B : Bool) (hB : B = true ↔ ∃ s i, LfAt N t y s i) :
    Calls Try.prog 110 #[trv t a cap N, .int .i64 y] w fun e w' => e = .returned (.bool B) ∧ Below w.heap.size w w' := by
  obtain ⟨ls, hls⟩ := lvO_ex N t
  have b1 : Below w.heap.size w (w.alloc (.cells #[.int .i64 t, .slice a N.length cap] 24)) := al1 _
  have cl := tleaves_any t a cap N _ (hN.keep b1) hsm ls hls
  have hB2 : B = true ↔ y ∈ preI ls := by
    rw [hB]
    unfold preI
    rw [List.mem_map]
    rcases hls with ⟨s, h, rfl⟩ | ⟨h, rfl⟩
    · constructor
      · rintro ⟨s', i, h1, h2, h3⟩
        have := h.uniq h1
        subst this
        exact ⟨i, h3, h2.symm⟩
      · rintro ⟨i, h1, h2⟩
        exact ⟨s, i, h, h2.symm, h1⟩
    · constructor
      · rintro ⟨s', i, h1, _⟩
        exact absurd h1 (h s')
      · rintro ⟨i, h1, _⟩
        cases h1
  have HB := Lib.hid b1
  have HX := Lib.hid hB2
  have hpl := preI_len ls
  have cc := fun (ao : Option Addr) (c : Nat) (W : World) (h : RI W ao c (preI ls)) => ctI_any ao c (preI ls) y W h B hB2
  simp only [hpl] at cc
  unfold trv LvIs at cl
  unfold trv
  clear b1 hB hB2 hls hN hpl
  go_enter Try.func110, Try.ntmps110
  go_wp2_with (first
    | (go_at_call 18; ((with_reducible refine cl.mono ?_); clear cl; rintro e w3 ⟨ao, c, rfl, hr, hb3⟩; have HR := Lib.hid hr; have HB3 := Lib.hid (bel2 HB.out hb3); clear hr hb3))
    | (go_at_call 123; ((with_reducible refine (cc _ _ _ HR.out).mono ?_); clear cc; rintro e w4 ⟨rfl, rfl⟩))
    | fail)
  go_ret
  exact ⟨rfl, HB3.out⟩

/-- Is it the route above that place? -/
def isPar (n : Nd) (y : Int) : Bool := n.r && (n.a == y || n.b == y)
set_option maxRecDepth 100000 in
set_option maxHeartbeats 3200000 in
theorem abv1_any (n : Nd) (pa : Option Addr) (pc : Nat) (y : Int) (q : Nat) (w : World) (hq : w.cell? ⟨q, 0, none⟩ = some (.int .i64 y)) (B : Bool) (hB : isPar n y = B) :
    Calls Try.prog 136 #[ndv n pa pc, .pointer (some ⟨q, 0, none⟩)] w fun e w' => e = .returned (.bool B) ∧ Below w.heap.size w w' := by
  have hql := World.block_lt_of_cell? w _ hq
  have hb : Below w.heap.size w (w.alloc (.cells #[.bool n.r, .int .i64 n.k, .int .i64 n.a, .int .i64 n.b, .slice pa n.p.length pc, .int .i64 n.s] 49)) := al1 _
  have HB := Lib.hid hb
  have q1 := kc hb hq
  obtain ⟨r, k, l, bb, p, st⟩ := n
  unfold ndv
  dsimp only at q1 HB ⊢
  unfold isPar at hB
  dsimp only at hB
  generalize p.length = pl at *
  clear hb hq hql
  cases r
  · subst hB
    go_enter Try.func136, Try.ntmps136
    go_wp2_with (fail)
    go_ret
    exact ⟨rfl, HB.out⟩
  · by_cases h1 : l = y
    · subst h1
      obtain rfl : B = true := by rw [← hB]; simp
      clear hB
      go_enter Try.func136, Try.ntmps136
      go_wp2_with (fail)
      go_ret
      exact ⟨rfl, HB.out⟩
    · have h1' : (l == y) = false := by simp [h1]
      by_cases h2 : bb = y
      · subst h2
        obtain rfl : B = true := by rw [← hB]; simp
        clear hB
        go_enter Try.func136, Try.ntmps136
        go_wp2_with (fail)
        go_ret
        exact ⟨rfl, HB.out⟩
      · have h2' : (bb == y) = false := by simp [h2]
        obtain rfl : B = false := by rw [← hB, h1', h2']; rfl
        clear hB
        go_enter Try.func136, Try.ntmps136
        go_wp2_with (fail)
        go_ret
        exact ⟨rfl, HB.out⟩
/-- Which route is above, if one is. -/
def PaO (N : List Nd) (y n : Int) : Prop := (n = -1 ∧ ∀ m ∈ N, isPar m y = false) ∨ ∃ (i : Nat) (m : Nd), n = i ∧ N[i]? = some m ∧ isPar m y = true ∧ ∀ z ∈ N.take i, isPar z y = false
set_option maxRecDepth 100000 in
set_option maxHeartbeats 6400000 in
theorem ixA_any (a : Option Addr) (cap : Nat) (N : List Nd) (y : Int) (q : Nat) (w : World) (hN : Ns w a cap N) (hl : N.length ≤ 10000) (hq : w.cell? ⟨q, 0, none⟩ = some (.int .i64 y)) :
    Calls Try.prog 135 #[.slice a N.length cap, .func (.func 136) #[] #[.pointer (some ⟨q, 0, none⟩)]] w fun e w' => (∃ n : Int, e = .returned (.int .i64 n) ∧ PaO N y n) ∧ Below w.heap.size w w' := by
  have HN := Lib.hid hN
  have HQ := Lib.hid hq
  have hc1 := hN.1
  have hc2 := hN.2.1
  clear hN hq
  unfold maxLen at hc2
  go_enter Try.func135, Try.ntmps135
  go_wp2_with (fail)
  go_loopw [8] (fun i wr => ∃ n : Nat, n ≤ N.length ∧ i = .int .i64 n ∧ (∀ z ∈ N.take n, isPar z y = false) ∧ Below w.heap.size w wr) (fun i _ => N.length - (intOf i).toNat)
  case atStart => exact ⟨0, Nat.zero_le _, rfl, by simp, Below.refl _ _⟩
  case round =>
    obtain ⟨n, hn, rfl, hno, hb⟩ := hrel
    have HNO := Lib.hid hno
    have HBB := Lib.hid hb
    clear hno
    by_cases hlt : n < N.length
    · obtain ⟨x, hx⟩ : ∃ x, N[n]? = some x := ⟨_, List.getElem?_eq_getElem hlt⟩
      obtain ⟨b, o, pa, pc, rfl, hx1⟩ := (HN.out.keep hb).2.2 n x hx
      have HX := Lib.hid hx
      obtain ⟨e0, e1, e2, e3, e4, e5, -⟩ := hx1
      have c := abv1_any x pa pc y q _ (kc hb HQ.out)
      have hn0 : (0 : Int) ≤ (n : Int) := by omega
      have hnl : (n : Int) < (N.length : Int) := by omega
      clear hx hb
      unfold ndv at c
      cases hr : isPar x y with
      | true =>
        have c := c true hr
        have HRR := Lib.hid hr
        clear hr
        go_wp2_with (go_at_call 136; ((with_reducible refine c.mono ?_); clear c; rintro e w2 ⟨rfl, hb2⟩))
        go_ret
        exact ⟨⟨_, rfl, .inr ⟨n, x, rfl, HX.out, HRR.out, HNO.out⟩⟩, bel2 HBB.out hb2⟩
      | false =>
        have c := c false hr
        have HRR := Lib.hid hr
        clear hr
        go_wp2_with (go_at_call 136; ((with_reducible refine c.mono ?_); clear c; rintro e w2 ⟨rfl, hb2⟩))
        go_roundw
        case rel =>
          refine ⟨n + 1, by omega, by go_num, fun z hz => ?_, bel2 HBB.out hb2⟩
          rw [List.take_succ, HX.out] at hz
          simp at hz
          rcases hz with hz | rfl
          · exact HNO.out z hz
          · exact HRR.out
        case measure => simp [intOf]; omega
    · obtain rfl : n = N.length := by omega
      go_wp2_with (fail)
      go_ret
      exact ⟨⟨_, rfl, .inl ⟨rfl, fun x hx => HNO.out x (by rw [List.take_of_length_le (Nat.le_refl _)]; exact hx)⟩⟩, HBB.out⟩
/-- adapt.above. -/
theorem above_any (t : Int) (a : Option Addr) (cap : Nat) (N : List Nd) (y : Int) (w : World) (hN : Ns w a cap N) (hl : N.length ≤ 10000) (u : Int) (B : Bool) (hu : ∀ n, PaO N y n → n = u) (hB : decide (0 ≤ u) = B) :
    Calls Try.prog 126 #[trv t a cap N, .int .i64 y] w fun e w' => e = .returned (.tuple #[.int .i64 u, .bool B]) ∧ Below w.heap.size w w' := by
  have b1 : Below w.heap.size w ((w.alloc (.cells #[.int .i64 t, .slice a N.length cap] 24)).alloc (.cells #[.int .i64 y] 3)) := bel1 (al1 _) _
  have hy : ((w.alloc (.cells #[.int .i64 t, .slice a N.length cap] 24)).alloc (.cells #[.int .i64 y] 3)).cell? ⟨w.heap.size + 1, 0, none⟩ = some (.int .i64 y) := by simp [go_sem]
  have c := ixA_any a cap N y _ _ (hN.keep b1) hl hy
  have HB := Lib.hid b1
  have HU := Lib.hid hu
  have HD := Lib.hid hB
  unfold trv
  clear b1 hN hu hy hB
  go_enter Try.func126, Try.ntmps126
  go_wp2_with (go_at_call 135; ((with_reducible refine c.mono ?_); clear c; rintro e w2 ⟨⟨n, rfl, hn⟩, hb2⟩; obtain rfl := HU.out n hn))
  exact bodyPost_ret (v := .tuple #[.int .i64 n, .bool B]) (by simp [results, Try.results126, go_sem, HD.out]) rfl ⟨rfl, bel2 HB.out hb2⟩
end Go.Proofs.Ytijepfabkalcoaa

namespace Go.Proofs.Ytijepfabkalcoaa
open Go.RowKit
set_option linter.all false

/-- The route above a leaf, and the leaf beside it. -/
theorem beside {N : List Nd} {s : Sh} {t : Int} {i : Nat} (h : Tr N s t) (hi : i ∈ s.lvs) (hl : isLf i s = false) :
    ∃ x b k m nx, parA i s = some (x, b) ∧ nextA i s = some k ∧ N[x]? = some nx ∧ nx.r = true ∧ (∀ n, PaO N i n → n = x) ∧
      ((b = false ∧ nx.a = i ∧ nx.b ≠ i ∧ s.lvs[m]? = some i ∧ s.lvs[m + 1]? = some k) ∨ (b = true ∧ nx.b = i ∧ nx.a ≠ i ∧ s.lvs[m]? = some k ∧ s.lvs[m + 1]? = some i)) := by
  obtain ⟨x, b, nx, e1, e2, e3, e4, e5, e6, e7⟩ := parA_is h.hg h.nd hi hl
  obtain ⟨x', b', k, m, f1, f2, f3⟩ := nextA_par hi hl
  rw [e1] at f1
  cases f1
  refine ⟨x, b, k, m, nx, e1, f2, e3, e4, fun n hn => ?_, ?_⟩
  · have hpx : isPar nx i = true := by
      unfold isPar
      rw [e4]
      cases b
      · rw [(e5 rfl).1]; simp
      · rw [(e6 rfl).1]; simp
    rcases hn with ⟨_, hno⟩ | ⟨j, mj, rfl, hj, hp, hno⟩
    · rw [hno nx (List.mem_of_getElem? e3)] at hpx; cases hpx
    · have hjl := (List.getElem?_eq_some_iff.1 hj).1
      unfold isPar at hp
      simp only [Bool.and_eq_true, Bool.or_eq_true, beq_iff_eq] at hp
      have := e7 j (h.mem hjl) mj hj hp.1 hp.2
      omega
  · rcases f3 with ⟨rfl, fa, fb⟩ | ⟨rfl, fa, fb⟩
    · exact .inl ⟨rfl, (e5 rfl).1, (e5 rfl).2, fa, fb⟩
    · exact .inr ⟨rfl, (e6 rfl).1, (e6 rfl).2, fa, fb⟩
theorem alone_pa {N : List Nd} {s : Sh} {t : Int} {i : Nat} (h : Tr N s t) (hl : isLf i s = true) {n : Int} (hn : PaO N i n) : n = -1 := by
  have e := isLf_of hl
  subst e
  have h1 := h.all
  simp [Sh.pre] at h1
  obtain ⟨hr, _⟩ := lf_plain h.hg i (by simp [Sh.lvs])
  have hil := h.hg.lt i (by simp [Sh.pre])
  rcases hn with ⟨e, _⟩ | ⟨j, mj, rfl, hj, hp, _⟩
  · exact e
  · have hjl := (List.getElem?_eq_some_iff.1 hj).1
    obtain rfl : j = i := by omega
    rw [nd_of hj] at hr
    unfold isPar at hp
    rw [hr] at hp; cases hp
theorem fst_at {l : List Nat} (h : l.Nodup) {j i : Nat} (hj : l[j]? = some i) {n : Int} (hn : Fst (preI l) (i : Int) n) : n = j := by
  have hjl := (List.getElem?_eq_some_iff.1 hj).1
  have hm : (i : Int) ∈ preI l := List.mem_map.2 ⟨i, List.mem_of_getElem? hj, rfl⟩
  rcases hn with ⟨_, hn⟩ | ⟨j', rfl, h1, h2, _⟩
  · exact absurd hm hn
  · unfold preI at h2
    rw [List.getElem?_map] at h2
    obtain ⟨i', e1, e2⟩ := Option.map_eq_some_iff.1 h2
    obtain rfl : i' = i := by omega
    have := nodup_at h e1 hj
    omega
theorem preI_get {l : List Nat} {j i : Nat} (h : l[j]? = some i) : (preI l)[j]? = some (i : Int) := by unfold preI; rw [List.getElem?_map, h]; rfl
def kI (k : Option Nat) : Int := match k with | none => 0 | some n => (n : Int)

set_option maxRecDepth 100000 in
set_option maxHeartbeats 6400000 in
theorem next_no (t : Int) (a : Option Addr) (cap : Nat) (N : List Nd) (y : Int) (w : World) (hN : Ns w a cap N) (hsm : Small N) (h : ¬ ∃ s i, LfAt N t y s i) :
    Calls Try.prog 125 #[trv t a cap N, .int .i64 y] w fun e w' => e = .returned (.tuple #[.int .i64 0, .bool false]) ∧ Below w.heap.size w w' := by
  have b1 : Below w.heap.size w (w.alloc (.cells #[.int .i64 t, .slice a N.length cap] 24)) := al1 _
  have ci := ailf_any t a cap N y _ (hN.keep b1) hsm false ⟨fun e => (by cases e), fun e => absurd e h⟩
  have HB := Lib.hid b1
  unfold trv at ci ⊢
  clear b1 hN h hsm
  go_enter Try.func125, Try.ntmps125
  go_wp2_with (go_at_call 110; ((with_reducible refine ci.mono ?_); clear ci; rintro e w3 ⟨rfl, hb3⟩))
  exact bodyPost_ret (v := .tuple #[.int .i64 0, .bool false]) (by simp [results, Try.results125, go_sem]) rfl ⟨rfl, bel2 HB.out hb3⟩

set_option maxRecDepth 100000 in
set_option maxHeartbeats 6400000 in
theorem next_alone (t : Int) (a : Option Addr) (cap : Nat) (N : List Nd) (s : Sh) (i : Nat) (w : World) (hN : Ns w a cap N) (hsm : Small N) (h : LfAt N t (i : Int) s i) (hl : isLf i s = true) :
    Calls Try.prog 125 #[trv t a cap N, .int .i64 (i : Int)] w fun e w' => e = .returned (.tuple #[.int .i64 0, .bool false]) ∧ Below w.heap.size w w' := by
  have b1 : Below w.heap.size w (w.alloc (.cells #[.int .i64 t, .slice a N.length cap] 24)) := al1 _
  have ci := ailf_any t a cap N (i : Int) _ (hN.keep b1) hsm true ⟨fun _ => ⟨s, i, h⟩, fun _ => rfl⟩
  have ca := fun (W : World) (hW : Ns W a cap N) => above_any t a cap N (i : Int) W hW (by have := hsm.1; omega) (-1) false (fun n hn => alone_pa h.1 hl hn) rfl
  have B1 := Lib.hid (Bk.new w #[.int .i64 t, .slice a N.length cap] 24)
  have HB := Lib.hid b1
  have HN := Lib.hid hN
  unfold trv at ci ca ⊢
  clear b1 hN h hsm hl
  go_enter Try.func125, Try.ntmps125
  go_wp2_with (first
    | (go_at_call 110; ((with_reducible refine ci.mono ?_); clear ci; rintro e w3 ⟨rfl, hb3⟩; have HB3 := Lib.hid (bel2 HB.out hb3); have R1 := Lib.hid (B1.out.keep hb3); clear hb3; have k0 := R1.out.at_ 0 _ rfl; have k1 := R1.out.at_ 1 _ rfl))
    | (go_at_call 126; ((with_reducible refine (ca _ (HN.out.keep HB3.out)).mono ?_); clear ca; rintro e w4 ⟨rfl, hb4⟩))
    | fail)
  exact bodyPost_ret (v := .tuple #[.int .i64 0, .bool false]) (by simp [results, Try.results125, go_sem]) rfl ⟨rfl, bel2 HB3.out hb4⟩

set_option maxRecDepth 100000 in
set_option maxHeartbeats 6400000 in
theorem next_yes (t : Int) (a : Option Addr) (cap : Nat) (N : List Nd) (s : Sh) (i k : Nat) (w : World) (hN : Ns w a cap N) (hsm : Small N) (h : LfAt N t (i : Int) s i) (hl : isLf i s = false) (hk : nextA i s = some k) :
    Calls Try.prog 125 #[trv t a cap N, .int .i64 (i : Int)] w fun e w' => e = .returned (.tuple #[.int .i64 (k : Int), .bool true]) ∧ Below w.heap.size w w' := by
  have b1 : Below w.heap.size w (w.alloc (.cells #[.int .i64 t, .slice a N.length cap] 24)) := al1 _
  have ci := ailf_any t a cap N (i : Int) _ (hN.keep b1) hsm true ⟨fun _ => ⟨s, i, h⟩, fun _ => rfl⟩
  obtain ⟨x, b, k', m, nx, e1, e2, e3, e4, e5, e6⟩ := beside h.1 h.2.2 hl
  rw [hk] at e2
  cases e2
  have ca := fun (W : World) (hW : Ns W a cap N) => above_any t a cap N (i : Int) W hW (by have := hsm.1; omega) (x : Int) true e5 (decide_eq_true (by omega))
  have cl := fun (W : World) (hW : Ns W a cap N) => tleaves_yes t a cap N W hW hsm s h.1
  have cx := fun (ao : Option Addr) (c : Nat) (W : World) (hR : RI W ao c (preI s.lvs)) => ixI_any ao c (preI s.lvs) (i : Int) W hR
  have hpl := preI_len s.lvs
  simp only [hpl] at cx
  have B1 := Lib.hid (Bk.new w #[.int .i64 t, .slice a N.length cap] 24)
  have HB := Lib.hid b1
  have HN := Lib.hid hN
  have hxl := (List.getElem?_eq_some_iff.1 e3).1
  have hl1 := hsm.1
  have hc1 := hN.1
  have hc2 := hN.2.1
  unfold maxLen at hc2
  have hll : s.lvs.length ≤ N.length := by have := lvs_len s; have := h.1.all; omega
  have HND := Lib.hid (lvs_nodup h.1.nd)
  have HX := Lib.hid e3
  have HLL := Lib.hid hll
  unfold trv at ci ca cl ⊢
  unfold LvIs at cl
  have hx0 : (0 : Int) ≤ (x : Int) := by omega
  have hx1 : (x : Int) < (N.length : Int) := by omega
  clear b1 hN h hsm hl e1 e5 hpl hll
  rcases e6 with ⟨rfl, fa, fb, fm, fm1⟩ | ⟨rfl, fa, fb, fm, fm1⟩
  · have hml := (List.getElem?_eq_some_iff.1 fm1).1
    have FM := Lib.hid fm
    have FM1 := Lib.hid (preI_get fm1)
    clear fm fm1
    go_enter Try.func125, Try.ntmps125
    go_wp2_with (first
      | (go_at_call 110; ((with_reducible refine ci.mono ?_); clear ci; rintro e w3 ⟨rfl, hb3⟩; have HB3 := Lib.hid (bel2 HB.out hb3); have R1 := Lib.hid (B1.out.keep hb3); clear hb3; have k0 := R1.out.at_ 0 _ rfl; have k1 := R1.out.at_ 1 _ rfl))
      | (go_at_call 126; ((with_reducible refine (ca _ (HN.out.keep HB3.out)).mono ?_); clear ca; rintro e w4 ⟨rfl, hb4⟩; have HB4 := Lib.hid (bel2 HB3.out hb4); have R2 := Lib.hid (R1.out.keep hb4); clear hb4 k0 k1; have k0 := R2.out.at_ 0 _ rfl; have k1 := R2.out.at_ 1 _ rfl))
      | (go_at_call 18; ((with_reducible refine (cl _ (HN.out.keep HB4.out)).mono ?_); clear cl; rintro e w5 ⟨ao, c, rfl, hr, hb5⟩; have HR := Lib.hid hr; have HB5 := Lib.hid (bel2 HB4.out hb5); have R3 := Lib.hid (R2.out.keep hb5); clear hb5 k0 k1 hr; have k0 := R3.out.at_ 0 _ rfl; have k1 := R3.out.at_ 1 _ rfl))
      | (go_at_call 44; ((with_reducible refine (cx _ _ _ HR.out).mono ?_); clear cx; rintro e w6 ⟨⟨n, rfl, hn⟩, rfl⟩; obtain rfl := fst_at HND.out FM.out hn; clear hn; obtain ⟨bx, ox, px, pcx, rfl, hnx⟩ := (HN.out.keep HB5.out).2.2 x nx HX.out; have x2 := hnx.c2; rw [fa] at x2; clear hnx; obtain ⟨bl, ol, rfl, cl1⟩ := HR.out.2.2 (m + 1) _ FM1.out; have hrc := HR.out.1; have hrm := HR.out.2.1; unfold maxLen at hrm; have hpl := preI_len s.lvs; rw [hpl] at hrc; clear hpl; have hw : wrap64 ((m : Int) + 1) = ((m + 1 : Nat) : Int) := by unfold wrap64; omega))
      | fail)
    exact bodyPost_ret (v := .tuple #[.int .i64 (k : Int), .bool true]) (by simp [results, Try.results125, go_sem]) rfl ⟨rfl, HB5.out⟩
  · have hml := (List.getElem?_eq_some_iff.1 fm1).1
    have FM := Lib.hid fm1
    have FM1 := Lib.hid (preI_get fm)
    have fb' : (nx.a == (i : Int)) = false := by simp [fb]
    have FB := Lib.hid fb'
    clear fm fm1
    go_enter Try.func125, Try.ntmps125
    go_wp2_with (first
      | (go_at_call 110; ((with_reducible refine ci.mono ?_); clear ci; rintro e w3 ⟨rfl, hb3⟩; have HB3 := Lib.hid (bel2 HB.out hb3); have R1 := Lib.hid (B1.out.keep hb3); clear hb3; have k0 := R1.out.at_ 0 _ rfl; have k1 := R1.out.at_ 1 _ rfl))
      | (go_at_call 126; ((with_reducible refine (ca _ (HN.out.keep HB3.out)).mono ?_); clear ca; rintro e w4 ⟨rfl, hb4⟩; have HB4 := Lib.hid (bel2 HB3.out hb4); have R2 := Lib.hid (R1.out.keep hb4); clear hb4 k0 k1; have k0 := R2.out.at_ 0 _ rfl; have k1 := R2.out.at_ 1 _ rfl))
      | (go_at_call 18; ((with_reducible refine (cl _ (HN.out.keep HB4.out)).mono ?_); clear cl; rintro e w5 ⟨ao, c, rfl, hr, hb5⟩; have HR := Lib.hid hr; have HB5 := Lib.hid (bel2 HB4.out hb5); have R3 := Lib.hid (R2.out.keep hb5); clear hb5 k0 k1 hr; have k0 := R3.out.at_ 0 _ rfl; have k1 := R3.out.at_ 1 _ rfl))
      | (go_at_call 44; ((with_reducible refine (cx _ _ _ HR.out).mono ?_); clear cx; rintro e w6 ⟨⟨n, rfl, hn⟩, rfl⟩; obtain rfl := fst_at HND.out FM.out hn; clear hn; obtain ⟨bx, ox, px, pcx, rfl, hnx⟩ := (HN.out.keep HB5.out).2.2 x nx HX.out; have x2 := hnx.c2; clear hnx; obtain ⟨bl, ol, rfl, cl1⟩ := HR.out.2.2 m _ FM1.out; have hrc := HR.out.1; have hrm := HR.out.2.1; unfold maxLen at hrm; have hpl := preI_len s.lvs; rw [hpl] at hrc; clear hpl; have hw : wrap64 (((m + 1 : Nat) : Int) - 1) = (m : Int) := by unfold wrap64; omega))
      | fail)
    exact bodyPost_ret (v := .tuple #[.int .i64 (k : Int), .bool true]) (by simp [results, Try.results125, go_sem]) rfl ⟨rfl, HB5.out⟩
/-- adapt.Next. -/
theorem next_any (t : Int) (a : Option Addr) (cap : Nat) (N : List Nd) (y : Int) (w : World) (hN : Ns w a cap N) (hsm : Small N) (k : Option Nat) (h : NxtO N t y k) :
    Calls Try.prog 125 #[trv t a cap N, .int .i64 y] w fun e w' => e = .returned (.tuple #[.int .i64 (kI k), .bool k.isSome]) ∧ Below w.heap.size w w' := by
  rcases h with ⟨s, i, n, h, hl, hk, rfl⟩ | ⟨rfl, h⟩
  · obtain rfl := h.2.1
    exact next_yes t a cap N s i n w hN hsm h hl hk
  · rcases Classical.em (∃ s i, LfAt N t y s i) with ⟨s, i, h2⟩ | h2
    · have hl : isLf i s = true := by
        cases e : isLf i s
        · exact absurd ⟨s, i, h2, e⟩ h
        · rfl
      obtain rfl := h2.2.1
      exact next_alone t a cap N s i w hN hsm h2 hl
    · exact next_no t a cap N y w hN hsm h2
end Go.Proofs.Ytijepfabkalcoaa
