/- Nodes alike: tree.sameNode, osierref1.SameNode; slices.EqualFunc. No condition: lemmas. tree.Leaves: slices.DeleteFunc on a row of places. No condition: lemmas. -/
import Derived.Test.YtijepfabkalcoaaTrA
import Derived.Test.YtijepfabkalcoaaTrR
import Derived.Lib.SliceRun
namespace Go.Proofs.Ytijepfabkalcoaa
open Go.RowKit
set_option linter.all false

set_option maxRecDepth 100000 in
set_option maxHeartbeats 6400000 in
theorem rsamenode_any (n m : Nd) (pa qa : Option Addr) (pc qc : Nat) (w : World) (h : Prs w pa pc n.p) (h2 : Prs w qa qc m.p) (B : Bool) (hB : B = true ↔ n = m) :
    Calls Try.prog 72 #[ndv n pa pc, ndv m qa qc] w fun e w' => e = .returned (.bool B) ∧ Below w.heap.size w w' := by
  obtain ⟨r, k, l, b, p, s⟩ := n
  obtain ⟨r', k', l', b', p', s'⟩ := m
  rw [Nd.mk.injEq] at hB
  unfold ndv
  dsimp only at h h2 ⊢
  have b1 : Below w.heap.size w (w.alloc (.cells #[.bool r, .int .i64 k, .int .i64 l, .int .i64 b, .slice pa p.length pc, .int .i64 s] 49)) := al1 _
  have b2 : Below w.heap.size w ((w.alloc (.cells #[.bool r, .int .i64 k, .int .i64 l, .int .i64 b, .slice pa p.length pc, .int .i64 s] 49)).alloc (.cells #[.bool r', .int .i64 k', .int .i64 l', .int .i64 b', .slice qa p'.length qc, .int .i64 s'] 49)) := bel1 b1 _
  have c := samep_any pa qa pc qc p p' _ (h.below b2) (h2.below b2) (decide (p = p')) rfl
  by_cases h0 : r = r'
  case neg =>
    obtain rfl : B = false := by cases B <;> simp_all
    have e0 : (r == r') = false := by simpa using h0
    clear hB c
    go_enter Try.func72, Try.ntmps72
    go_wp2_with (fail)
    go_ret
    exact ⟨rfl, b2⟩
  subst h0
  by_cases h0 : k = k'
  case neg =>
    obtain rfl : B = false := by cases B <;> simp_all
    have e0 : (k == k') = false := by simpa using h0
    clear hB c
    go_enter Try.func72, Try.ntmps72
    go_wp2_with (fail)
    go_ret
    exact ⟨rfl, b2⟩
  subst h0
  by_cases h0 : l = l'
  case neg =>
    obtain rfl : B = false := by cases B <;> simp_all
    have e0 : (l == l') = false := by simpa using h0
    clear hB c
    go_enter Try.func72, Try.ntmps72
    go_wp2_with (fail)
    go_ret
    exact ⟨rfl, b2⟩
  subst h0
  by_cases h0 : b = b'
  case neg =>
    obtain rfl : B = false := by cases B <;> simp_all
    have e0 : (b == b') = false := by simpa using h0
    clear hB c
    go_enter Try.func72, Try.ntmps72
    go_wp2_with (fail)
    go_ret
    exact ⟨rfl, b2⟩
  subst h0
  by_cases h0 : s = s'
  case neg =>
    obtain rfl : B = false := by cases B <;> simp_all
    have e0 : (s == s') = false := by simpa using h0
    clear hB c
    go_enter Try.func72, Try.ntmps72
    go_wp2_with (fail)
    go_ret
    exact ⟨rfl, b2⟩
  subst h0
  have hB2 : decide (p = p') = B := by
    cases B
    · simpa using hB
    · simpa using hB
  rw [hB2] at c
  have HB := Lib.hid b2
  clear hB hB2 h h2 b1 b2
  go_enter Try.func72, Try.ntmps72
  go_wp2_with (go_at_call 19; ((with_reducible refine c.mono ?_); clear c; rintro e w2 ⟨rfl, hb2⟩))
  go_ret
  exact ⟨by simp, bel2 HB.out hb2⟩

end Go.Proofs.Ytijepfabkalcoaa

namespace Go.Proofs.Ytijepfabkalcoaa
open Go.RowKit
set_option linter.all false

def isR (N : List Nd) (x : Int) : Bool := (nd N x.toNat).r
section
variable {a : Option Addr} {cap : Nat} {N : List Nd} {w0 : World}
theorem lv1_any (hN : Ns w0 a cap N) (hl : N.length ≤ 2000) (x : Int) (hx0 : 0 ≤ x) (hx1 : x < (N.length : Int)) (q : Nat) (w : World) (hb : Below w0.heap.size w0 w) (hq : w.cell? ⟨q, 1, none⟩ = some (.slice a N.length cap)) :
    Calls Try.prog 47 #[.int .i64 x, .pointer (some ⟨q, 0, none⟩)] w fun e w' => e = .returned (.bool (isR N x)) ∧ w' = w := by
  obtain ⟨i, rfl⟩ : ∃ i : Nat, x = i := ⟨x.toNat, by omega⟩
  have hc1 := hN.1
  have hc2 := hN.2.1
  unfold maxLen at hc2
  have hn := nd_get (N := N) (i := i) (by omega)
  obtain ⟨b, o, pa, pc, rfl, hna⟩ := (hN.keep hb).2.2 i _ hn
  have e0 := hna.c0
  have hr : isR N (i : Int) = (nd N i).r := by unfold isR; rw [Int.toNat_natCast]
  rw [hr]
  generalize (nd N i).r = r at *
  clear hna hn hN hb hr
  go_enter Try.func47, Try.ntmps47
  go_wp2_with (fail)
  go_ret
  exact ⟨rfl, rfl⟩

set_option maxRecDepth 100000 in
set_option maxHeartbeats 6400000 in
theorem ixr_any (hN : Ns w0 a cap N) (hl : N.length ≤ 2000) (ao : Option Addr) (c : Nat) (L : List Int) (hL : ∀ x ∈ L, 0 ≤ x ∧ x < (N.length : Int)) (hLl : L.length ≤ 10000) (q : Nat) (w : World) (hR : RI w ao c L) (hb : Below w0.heap.size w0 w) (hq : w.cell? ⟨q, 1, none⟩ = some (.slice a N.length cap)) :
    Calls Try.prog 78 #[.slice ao L.length c, .func (.func 47) #[] #[.pointer (some ⟨q, 0, none⟩)]] w fun e w' => (∃ n : Int, e = .returned (.int .i64 n) ∧ ((n = -1 ∧ ∀ x ∈ L, isR N x = false) ∨ ∃ i : Nat, n = i ∧ i < L.length ∧ (∀ x ∈ L.take i, isR N x = false) ∧ ∃ x, L[i]? = some x ∧ isR N x = true)) ∧ w' = w := by
  have HH := Lib.hid hR
  have hc1 := hR.1
  have hc2 := hR.2.1
  have HN := Lib.hid hN
  have HB := Lib.hid hb
  have HL := Lib.hid hL
  clear hR hN hb hL
  unfold maxLen at hc2
  go_enter Try.func78, Try.ntmps78
  go_wp2_with (fail)
  go_loopw [8] (fun i wr => ∃ n : Nat, n ≤ L.length ∧ i = .int .i64 n ∧ (∀ z ∈ L.take n, isR N z = false) ∧ wr = w) (fun i _ => L.length - (intOf i).toNat)
  case atStart => exact ⟨0, Nat.zero_le _, rfl, by simp, rfl⟩
  case round =>
    obtain ⟨n, hn, rfl, hno, rfl⟩ := hrel
    have HNO := Lib.hid hno
    clear hno
    by_cases hlt : n < L.length
    · obtain ⟨x, hx⟩ : ∃ x, L[n]? = some x := ⟨_, List.getElem?_eq_getElem hlt⟩
      obtain ⟨b, o, rfl, c0⟩ := HH.out.2.2 n x hx
      have hxm := HL.out x (List.mem_of_getElem? hx)
      have HX := Lib.hid hx
      have c := lv1_any HN.out hl x hxm.1 hxm.2 q _ HB.out hq
      clear hx hxm
      cases hr : isR N x with
      | true =>
        rw [hr] at c
        have HRR := Lib.hid hr
        clear hr
        go_wp2_with (go_at_call 47; ((with_reducible refine c.mono ?_); clear c; rintro e w2 ⟨rfl, rfl⟩))
        go_ret
        exact ⟨⟨_, rfl, .inr ⟨n, rfl, hlt, HNO.out, x, HX.out, HRR.out⟩⟩, rfl⟩
      | false =>
        rw [hr] at c
        have HRR := Lib.hid hr
        clear hr
        go_wp2_with (go_at_call 47; ((with_reducible refine c.mono ?_); clear c; rintro e w2 ⟨rfl, rfl⟩))
        go_roundw
        case rel =>
          refine ⟨n + 1, by omega, by go_num, fun z hz => ?_, by trivial⟩
          rw [List.take_succ, HX.out] at hz
          simp at hz
          rcases hz with hz | rfl
          · exact HNO.out z hz
          · exact HRR.out
        case measure => simp [intOf]; omega
    · obtain rfl : n = L.length := by omega
      go_wp2_with (fail)
      go_ret
      exact ⟨⟨_, rfl, .inl ⟨rfl, fun x hx => HNO.out x (by rw [List.take_of_length_le (Nat.le_refl _)]; exact hx)⟩⟩, rfl⟩
end
def kp (N : List Nd) (x : Int) : Bool := !(isR N x)
theorem zeroI (w : World) : (zeroValue 3).run Try.prog w = .ok (.int .i64 0) w := by kernel_rfl
theorem only_cells (g : Nat) : ∀ (vs : List Value) (o : Nat) (W : World), Only (fun k => k = g) W (W.setCells g o vs) := by
  intro vs
  induction vs with
  | nil => intro o W; exact Only.refl _ _
  | cons v r ih =>
    intro o W
    rw [World.setCells]
    first
      | exact ((Only.refl _ W).setCell (S := fun k => k = g) (p := ⟨g, o, none⟩) (.inl rfl) v).trans (ih _ _) (fun i hi _ => hi)
      | exact (ih _ _).setCell (S := fun k => k = g) (p := ⟨g, o, none⟩) (.inl rfl) v
/-- A row's cells. -/
theorem Nums.bk {w : World} {S : Nat → Prop} {ao : Option Addr} {n c : Nat} {L : List Int} (h : Nums w S (.slice ao n c) L) (hL : 0 < L.length) : ∃ g, ao = some ⟨g, 0, none⟩ ∧ n = L.length ∧ n ≤ c ∧ c ≤ maxLen ∧ Bk w g (cellsI L) := by
  obtain ⟨g, cap2, e, hn, hm, hf⟩ := row_at h.row hL
  simp only [Value.slice.injEq] at e
  obtain ⟨rfl, rfl, rfl⟩ := e
  refine ⟨g, rfl, rfl, hn, hm, (h.row.lt g rfl).2, fun j v hj => ?_, hf⟩
  have hjl : j < L.length := by have := (List.getElem?_eq_some_iff.1 hj).1; rwa [cellsI_len] at this
  rw [h.row.cellAt j (by omega)]
  exact hj
theorem cellsI_set (l : List Int) (i : Nat) (x : Int) : (cellsI l).set i (.int .i64 x) = cellsI (l.set i x) := by unfold cellsI; rw [List.map_set]
theorem cellsI_get {l : List Int} {i : Nat} {x : Int} (h : l[i]? = some x) : (cellsI l)[i]? = some (.int .i64 x) := by unfold cellsI; rw [List.getElem?_map, h]; rfl
section
variable {a : Option Addr} {cap : Nat} {N : List Nd} {w0 : World}
set_option maxRecDepth 100000 in
set_option maxHeartbeats 6400000 in
theorem del_any (hN : Ns w0 a cap N) (hl : N.length ≤ 2000) (g : Nat) (c : Nat) (L : List Int) (hL : ∀ x ∈ L, 0 ≤ x ∧ x < (N.length : Int)) (hLl : L.length ≤ 10000) (hLp : 0 < L.length) (q : Nat) (w : World) (hR : Bk w g (cellsI L)) (hcl : L.length ≤ c) (hcm : c ≤ maxLen) (hg : w0.heap.size ≤ g) (hgq : g ≠ q) (hb : Below w0.heap.size w0 w) (hq : w.cell? ⟨q, 1, none⟩ = some (.slice a N.length cap)) :
    Calls Try.prog 45 #[.slice (some ⟨g, 0, none⟩) L.length c, .func (.func 47) #[] #[.pointer (some ⟨q, 0, none⟩)]] w fun e w' => ∃ k, e = .returned (.slice (some ⟨g, 0, none⟩) k c) ∧ k = (L.filter (kp N)).length ∧ RI w' (some ⟨g, 0, none⟩) c (L.filter (kp N)) ∧ Only (fun k => k = g) w w' := by
  have hri : RI w (some ⟨g, 0, none⟩) c L := ⟨hcl, hcm, fun n v hv => ⟨g, 0, rfl, by rw [Nat.zero_add]; exact hR.at_ n _ (cellsI_get hv)⟩⟩
  have ci := ixr_any hN hl _ c L hL hLl q w hri hb hq
  have HR := Lib.hid hR
  have HRI := Lib.hid hri
  have HN := Lib.hid hN
  have HB := Lib.hid hb
  have HL := Lib.hid hL
  have HC := Lib.hid hcl
  have HCM := Lib.hid hcm
  have HQ := Lib.hid hq
  clear hR hri hN hb hL hq
  unfold maxLen at hcm
  go_enter Try.func45, Try.ntmps45
  go_upto_region 2 with (go_at_call 78; ((with_reducible refine ci.mono ?_); clear ci; rintro e w2 ⟨⟨n, rfl, hn⟩, hw⟩; obtain rfl : w = w2 := hw.symm; have HNN := Lib.hid hn; clear hn))
  rcases HNN.out with ⟨rfl, hall⟩ | ⟨i0, rfl, hi0, hall, x0, hx0, hr0⟩
  · have HA := Lib.hid hall
    clear hall HNN
    go_wp2_with (fail)
    go_ret
    have e : L.filter (kp N) = L := List.filter_eq_self.2 (fun x hx => by unfold kp; rw [HA.out x hx]; rfl)
    rw [e]
    exact ⟨_, rfl, rfl, HRI.out, Only.refl _ _⟩
  · have HA := Lib.hid (And.intro hall (And.intro hx0 hr0))
    have hi1 : ((i0 : Int) == -1) = false := by simp
    clear hall HNN hx0 hr0
    go_wp2_with (fail)
    go_loopw [5, 6] (fun y5 y6 wr => ∃ (i j : Nat) (vs : List Int), y5 = .int .i64 i ∧ y6 = .int .i64 j ∧ i < j ∧ j ≤ L.length ∧ vs.length = L.length ∧ vs.take i = (L.take j).filter (kp N) ∧ (∀ k, j ≤ k → vs[k]? = L[k]?) ∧ Bk wr g (cellsI vs) ∧ Only (fun k => k = g) w wr) (fun _ y6 _ => L.length - (intOf y6).toNat)
    case atStart =>
      refine ⟨i0, i0 + 1, L, rfl, by go_num, by omega, hi0, rfl, ?_, fun k _ => rfl, HR.out, Only.refl _ _⟩
      rw [List.take_succ, HA.out.2.1, List.filter_append, List.filter_eq_self.2 (fun x hx => by unfold kp; rw [HA.out.1 x hx]; rfl)]
      simp [kp, HA.out.2.2]
    case round =>
      obtain ⟨i, j, vs, rfl, rfl, hij, hj, hvl, htk, hdr, hbk, ho⟩ := hrel
      have HV := Lib.hid (And.intro htk hdr)
      have HK := Lib.hid (And.intro hbk ho)
      clear htk hdr hbk ho hi1
      by_cases hlt : j < L.length
      · obtain ⟨x, hx⟩ : ∃ x, L[j]? = some x := ⟨_, List.getElem?_eq_getElem hlt⟩
        have hxm := HL.out x (List.mem_of_getElem? hx)
        have cj := HK.out.1.at_ j _ (cellsI_get ((HV.out.2 j (Nat.le_refl _)).trans hx))
        have HX := Lib.hid hx
        have hbw : Below w0.heap.size w0 wr := HB.out.trans (HK.out.2.below (B := w0.heap.size) (fun i hi => by omega) HB.out.size)
        have hqw := HK.out.2.cell HQ.out (show ¬ (q = g) from fun e => hgq e.symm)
        have cl := lv1_any HN.out hl x hxm.1 hxm.2 q wr hbw hqw
        have hj1 : (j : Int) < (L.length : Int) := by omega
        clear hx hbw hqw hxm
        cases hr : isR N x with
        | true =>
          rw [hr] at cl
          have HRR := Lib.hid hr
          clear hr
          go_wp2_with (go_at_call 47; ((with_reducible refine cl.mono ?_); clear cl; rintro e w2 ⟨rfl, rfl⟩))
          go_roundw
          case rel =>
            refine ⟨i, j + 1, vs, rfl, by go_num, by omega, hlt, hvl, ?_, fun k hk => HV.out.2 k (by omega), HK.out.1, HK.out.2⟩
            rw [HV.out.1, List.take_succ, HX.out, List.filter_append]
            simp [kp, HRR.out]
          case measure => simp [intOf]; omega
        | false =>
          rw [hr] at cl
          have HRR := Lib.hid hr
          clear hr
          obtain ⟨y, hy⟩ : ∃ y, vs[i]? = some y := ⟨_, List.getElem?_eq_getElem (by omega)⟩
          have cy := HK.out.1.at_ i _ (cellsI_get hy)
          have fi := HK.out.1.fr i
          have hi2 : (i : Int) < (L.length : Int) := by omega
          clear hy
          go_wp2_with (go_at_call 47; ((with_reducible refine cl.mono ?_); clear cl; rintro e w2 ⟨rfl, rfl⟩))
          go_roundw
          case rel =>
            refine ⟨i + 1, j + 1, vs.set i x, by go_num, by go_num, by omega, hlt, by rw [List.length_set]; exact hvl, ?_, fun k hk => by rw [List.getElem?_set_ne (by omega)]; exact HV.out.2 k (by omega), ?_, HK.out.2.setCell (S := fun k => k = g) (p := ⟨g, i, none⟩) (.inl rfl) _⟩
            · rw [List.take_succ, List.getElem?_set_self (by omega), List.take_set_of_le (Nat.le_refl _), HV.out.1, List.take_succ, HX.out, List.filter_append]
              simp [kp, HRR.out]
            · have h := HK.out.1.set i (.int .i64 x) (by rw [cellsI_len]; omega)
              rw [cellsI_set] at h
              exact h
          case measure => simp [intOf]; omega
      · obtain rfl : j = L.length := by omega
        have hcc : ∀ j, j < L.length - i → (wr.cell? ⟨g, i + j, none⟩).isSome = true := fun j hj => by
          have hy : vs[i + j]? = some vs[i + j] := List.getElem?_eq_getElem (by omega)
          have h := HK.out.1.at_ (i + j) _ (cellsI_get hy)
          rw [h]; rfl
        have hcl : ∀ ty, (Builtin.clear_ #[37] ty #[.slice (some ⟨g, i, none⟩) (L.length - i) (c - i)]).run Try.prog wr = .ok (.tuple #[]) (wr.setCells g i (List.replicate (L.length - i) (.int .i64 0))) :=
          fun ty => Lib.run_clear_slice wr 37 3 ty (.int .i64 0) Try.underlying37 zeroI rfl rfl g i _ _ (by omega) hcc (fun j hj => HK.out.1.fr _)
        clear hcc
        have hil : (i : Int) ≤ (L.length : Int) := by omega
        go_wp2_with (simp only [hcl])
        go_ret
        have htk := HV.out.1
        rw [List.take_of_length_le (Nat.le_refl _)] at htk
        have hlen : i = (L.filter (kp N)).length := by rw [← htk, List.length_take]; omega
        refine ⟨i, rfl, hlen, ⟨by rw [← hlen]; have := HC.out; omega, HCM.out, fun n v hn => ⟨g, 0, rfl, ?_⟩⟩, HK.out.2.trans (only_cells g _ _ _) (fun i hi _ => hi)⟩
        have hni : n < i := by have := (List.getElem?_eq_some_iff.1 hn).1; omega
        rw [Nat.zero_add, World.cell?_setCells_out _ _ _ _ _ (fun _ _ => .inl hni)]
        refine HK.out.1.at_ n _ (cellsI_get ?_)
        rw [← htk, List.getElem?_take_of_lt hni] at hn
        exact hn
end
end Go.Proofs.Ytijepfabkalcoaa

