/- adapt.Next exactly. No condition: lemmas. -/
import Derived.Test.YteebceecohhegaaAeA
namespace Go.Proofs.Yteebceecohhegaa
open Go.RowKit
set_option linter.all false

/-- The route above a leaf, and the leaf beside it. -/
theorem beside {N : List Nd} {s : Sh} {t : Int} {i : Nat} (h : Tr N s t) (hi : i ∈ s.lvs) (hl : isLf i s = false) :
    ∃ x b k m nx, parA i s = some (x, b) ∧ nextA i s = some k ∧ N[x]? = some nx ∧ nx.r = true ∧ (∀ n, PaO N i n → n = x) ∧
      ((b = false ∧ nx.a = i ∧ nx.b ≠ i ∧ s.lvs[m]? = some i ∧ s.lvs[m + 1]? = some k) ∨ (b = true ∧ nx.b = i ∧ nx.a ≠ i ∧ s.lvs[m]? = some k ∧ s.lvs[m + 1]? = some i)) := by
  obtain ⟨x, b, nx, e1, e2, e3, e4, e5, e6, e7⟩ := parA_is h.hg h.nd hi hl
  obtain ⟨x', b', k, m, f1, f2, f3⟩ := nextA_par hi hl
  rw [e1] at f1
  cases f1
  refine ⟨x, b, k, m, nx, e1, f2, e3, e4, fun n hn => ?_, ?_⟩
  · have hpx : isPar nx i = true := by
      unfold isPar
      rw [e4]
      cases b
      · rw [(e5 rfl).1]; simp
      · rw [(e6 rfl).1]; simp
    rcases hn with ⟨_, hno⟩ | ⟨j, mj, rfl, hj, hp, hno⟩
    · rw [hno nx (List.mem_of_getElem? e3)] at hpx; cases hpx
    · have hjl := (List.getElem?_eq_some_iff.1 hj).1
      unfold isPar at hp
      simp only [Bool.and_eq_true, Bool.or_eq_true, beq_iff_eq] at hp
      have := e7 j (h.mem hjl) mj hj hp.1 hp.2
      omega
  · rcases f3 with ⟨rfl, fa, fb⟩ | ⟨rfl, fa, fb⟩
    · exact .inl ⟨rfl, (e5 rfl).1, (e5 rfl).2, fa, fb⟩
    · exact .inr ⟨rfl, (e6 rfl).1, (e6 rfl).2, fa, fb⟩
theorem alone_pa {N : List Nd} {s : Sh} {t : Int} {i : Nat} (h : Tr N s t) (hl : isLf i s = true) {n : Int} (hn : PaO N i n) : n = -1 := by
  have e := isLf_of hl
  subst e
  have h1 := h.all
  simp [Sh.pre] at h1
  obtain ⟨hr, _⟩ := lf_plain h.hg i (by simp [Sh.lvs])
  have hil := h.hg.lt i (by simp [Sh.pre])
  rcases hn with ⟨e, _⟩ | ⟨j, mj, rfl, hj, hp, _⟩
  · exact e
  · have hjl := (List.getElem?_eq_some_iff.1 hj).1
    obtain rfl : j = i := by omega
    rw [nd_of hj] at hr
    unfold isPar at hp
    rw [hr] at hp; cases hp
theorem fst_at {l : List Nat} (h : l.Nodup) {j i : Nat} (hj : l[j]? = some i) {n : Int} (hn : Fst (preI l) (i : Int) n) : n = j := by
  have hjl := (List.getElem?_eq_some_iff.1 hj).1
  have hm : (i : Int) ∈ preI l := List.mem_map.2 ⟨i, List.mem_of_getElem? hj, rfl⟩
  rcases hn with ⟨_, hn⟩ | ⟨j', rfl, h1, h2, _⟩
  · exact absurd hm hn
  · unfold preI at h2
    rw [List.getElem?_map] at h2
    obtain ⟨i', e1, e2⟩ := Option.map_eq_some_iff.1 h2
    obtain rfl : i' = i := by omega
    have := nodup_at h e1 hj
    omega
theorem preI_get {l : List Nat} {j i : Nat} (h : l[j]? = some i) : (preI l)[j]? = some (i : Int) := by unfold preI; rw [List.getElem?_map, h]; rfl
def kI (k : Option Nat) : Int := match k with | none => 0 | some n => (n : Int)

set_option maxRecDepth 100000 in
set_option maxHeartbeats 6400000 in
theorem next_no (t : Int) (a : Option Addr) (cap : Nat) (N : List Nd) (y : Int) (w : World) (hN : Ns w a cap N) (hsm : Small N) (h : ¬ ∃ s i, LfAt N t y s i) :
    Calls Try.prog 16 #[trv t a cap N, .int .i64 y] w fun e w' => e = .returned (.tuple #[.int .i64 0, .bool false]) ∧ Below w.heap.size w w' := by
  have b1 : Below w.heap.size w (w.alloc (.cells #[.int .i64 t, .slice a N.length cap] 24)) := al1 _
  have ci := ailf_any t a cap N y _ (hN.keep b1) hsm false ⟨fun e => (by cases e), fun e => absurd e h⟩
  have HB := Lib.hid b1
  unfold trv at ci ⊢
  clear b1 hN h hsm
  go_enter Try.func16, Try.ntmps16
  go_wp2_with (go_at_call 29; ((with_reducible refine ci.mono ?_); clear ci; rintro e w3 ⟨rfl, hb3⟩))
  exact bodyPost_ret (v := .tuple #[.int .i64 0, .bool false]) (by simp [results, Try.results16, go_sem]) rfl ⟨rfl, bel2 HB.out hb3⟩

set_option maxRecDepth 100000 in
set_option maxHeartbeats 6400000 in
theorem next_alone (t : Int) (a : Option Addr) (cap : Nat) (N : List Nd) (s : Sh) (i : Nat) (w : World) (hN : Ns w a cap N) (hsm : Small N) (h : LfAt N t (i : Int) s i) (hl : isLf i s = true) :
    Calls Try.prog 16 #[trv t a cap N, .int .i64 (i : Int)] w fun e w' => e = .returned (.tuple #[.int .i64 0, .bool false]) ∧ Below w.heap.size w w' := by
  have b1 : Below w.heap.size w (w.alloc (.cells #[.int .i64 t, .slice a N.length cap] 24)) := al1 _
  have ci := ailf_any t a cap N (i : Int) _ (hN.keep b1) hsm true ⟨fun _ => ⟨s, i, h⟩, fun _ => rfl⟩
  have ca := fun (W : World) (hW : Ns W a cap N) => above_any t a cap N (i : Int) W hW (by have := hsm.1; omega) (-1) false (fun n hn => alone_pa h.1 hl hn) rfl
  have B1 := Lib.hid (Bk.new w #[.int .i64 t, .slice a N.length cap] 24)
  have HB := Lib.hid b1
  have HN := Lib.hid hN
  unfold trv at ci ca ⊢
  clear b1 hN h hsm hl
  go_enter Try.func16, Try.ntmps16
  go_wp2_with (first
    | (go_at_call 29; ((with_reducible refine ci.mono ?_); clear ci; rintro e w3 ⟨rfl, hb3⟩; have HB3 := Lib.hid (bel2 HB.out hb3); have R1 := Lib.hid (B1.out.keep hb3); clear hb3; have k0 := R1.out.at_ 0 _ rfl; have k1 := R1.out.at_ 1 _ rfl))
    | (go_at_call 35; ((with_reducible refine (ca _ (HN.out.keep HB3.out)).mono ?_); clear ca; rintro e w4 ⟨rfl, hb4⟩))
    | fail)
  exact bodyPost_ret (v := .tuple #[.int .i64 0, .bool false]) (by simp [results, Try.results16, go_sem]) rfl ⟨rfl, bel2 HB3.out hb4⟩

set_option maxRecDepth 100000 in
set_option maxHeartbeats 6400000 in
theorem next_yes (t : Int) (a : Option Addr) (cap : Nat) (N : List Nd) (s : Sh) (i k : Nat) (w : World) (hN : Ns w a cap N) (hsm : Small N) (h : LfAt N t (i : Int) s i) (hl : isLf i s = false) (hk : nextA i s = some k) :
    Calls Try.prog 16 #[trv t a cap N, .int .i64 (i : Int)] w fun e w' => e = .returned (.tuple #[.int .i64 (k : Int), .bool true]) ∧ Below w.heap.size w w' := by
  have b1 : Below w.heap.size w (w.alloc (.cells #[.int .i64 t, .slice a N.length cap] 24)) := al1 _
  have ci := ailf_any t a cap N (i : Int) _ (hN.keep b1) hsm true ⟨fun _ => ⟨s, i, h⟩, fun _ => rfl⟩
  obtain ⟨x, b, k', m, nx, e1, e2, e3, e4, e5, e6⟩ := beside h.1 h.2.2 hl
  rw [hk] at e2
  cases e2
  have ca := fun (W : World) (hW : Ns W a cap N) => above_any t a cap N (i : Int) W hW (by have := hsm.1; omega) (x : Int) true e5 (decide_eq_true (by omega))
  have cl := fun (W : World) (hW : Ns W a cap N) => tleaves_yes t a cap N W hW hsm s h.1
  have cx := fun (ao : Option Addr) (c : Nat) (W : World) (hR : RI W ao c (preI s.lvs)) => ixI_any ao c (preI s.lvs) (i : Int) W hR
  have hpl := preI_len s.lvs
  simp only [hpl] at cx
  have B1 := Lib.hid (Bk.new w #[.int .i64 t, .slice a N.length cap] 24)
  have HB := Lib.hid b1
  have HN := Lib.hid hN
  have hxl := (List.getElem?_eq_some_iff.1 e3).1
  have hl1 := hsm.1
  have hc1 := hN.1
  have hc2 := hN.2.1
  unfold maxLen at hc2
  have hll : s.lvs.length ≤ N.length := by have := lvs_len s; have := h.1.all; omega
  have HND := Lib.hid (lvs_nodup h.1.nd)
  have HX := Lib.hid e3
  have HLL := Lib.hid hll
  unfold trv at ci ca cl ⊢
  unfold LvIs at cl
  have hx0 : (0 : Int) ≤ (x : Int) := by omega
  have hx1 : (x : Int) < (N.length : Int) := by omega
  clear b1 hN h hsm hl e1 e5 hpl hll
  rcases e6 with ⟨rfl, fa, fb, fm, fm1⟩ | ⟨rfl, fa, fb, fm, fm1⟩
  · have hml := (List.getElem?_eq_some_iff.1 fm1).1
    have FM := Lib.hid fm
    have FM1 := Lib.hid (preI_get fm1)
    clear fm fm1
    go_enter Try.func16, Try.ntmps16
    go_wp2_with (first
      | (go_at_call 29; ((with_reducible refine ci.mono ?_); clear ci; rintro e w3 ⟨rfl, hb3⟩; have HB3 := Lib.hid (bel2 HB.out hb3); have R1 := Lib.hid (B1.out.keep hb3); clear hb3; have k0 := R1.out.at_ 0 _ rfl; have k1 := R1.out.at_ 1 _ rfl))
      | (go_at_call 35; ((with_reducible refine (ca _ (HN.out.keep HB3.out)).mono ?_); clear ca; rintro e w4 ⟨rfl, hb4⟩; have HB4 := Lib.hid (bel2 HB3.out hb4); have R2 := Lib.hid (R1.out.keep hb4); clear hb4 k0 k1; have k0 := R2.out.at_ 0 _ rfl; have k1 := R2.out.at_ 1 _ rfl))
      | (go_at_call 21; ((with_reducible refine (cl _ (HN.out.keep HB4.out)).mono ?_); clear cl; rintro e w5 ⟨ao, c, rfl, hr, hb5⟩; have HR := Lib.hid hr; have HB5 := Lib.hid (bel2 HB4.out hb5); have R3 := Lib.hid (R2.out.keep hb5); clear hb5 k0 k1 hr; have k0 := R3.out.at_ 0 _ rfl; have k1 := R3.out.at_ 1 _ rfl))
      | (go_at_call 42; ((with_reducible refine (cx _ _ _ HR.out).mono ?_); clear cx; rintro e w6 ⟨⟨n, rfl, hn⟩, rfl⟩; obtain rfl := fst_at HND.out FM.out hn; clear hn; obtain ⟨bx, ox, px, pcx, rfl, hnx⟩ := (HN.out.keep HB5.out).2.2 x nx HX.out; have x2 := hnx.c2; rw [fa] at x2; clear hnx; obtain ⟨bl, ol, rfl, cl1⟩ := HR.out.2.2 (m + 1) _ FM1.out; have hrc := HR.out.1; have hrm := HR.out.2.1; unfold maxLen at hrm; have hpl := preI_len s.lvs; rw [hpl] at hrc; clear hpl; have hw : wrap64 ((m : Int) + 1) = ((m + 1 : Nat) : Int) := by unfold wrap64; omega))
      | fail)
    exact bodyPost_ret (v := .tuple #[.int .i64 (k : Int), .bool true]) (by simp [results, Try.results16, go_sem]) rfl ⟨rfl, HB5.out⟩
  · have hml := (List.getElem?_eq_some_iff.1 fm1).1
    have FM := Lib.hid fm1
    have FM1 := Lib.hid (preI_get fm)
    have fb' : (nx.a == (i : Int)) = false := by simp [fb]
    have FB := Lib.hid fb'
    clear fm fm1
    go_enter Try.func16, Try.ntmps16
    go_wp2_with (first
      | (go_at_call 29; ((with_reducible refine ci.mono ?_); clear ci; rintro e w3 ⟨rfl, hb3⟩; have HB3 := Lib.hid (bel2 HB.out hb3); have R1 := Lib.hid (B1.out.keep hb3); clear hb3; have k0 := R1.out.at_ 0 _ rfl; have k1 := R1.out.at_ 1 _ rfl))
      | (go_at_call 35; ((with_reducible refine (ca _ (HN.out.keep HB3.out)).mono ?_); clear ca; rintro e w4 ⟨rfl, hb4⟩; have HB4 := Lib.hid (bel2 HB3.out hb4); have R2 := Lib.hid (R1.out.keep hb4); clear hb4 k0 k1; have k0 := R2.out.at_ 0 _ rfl; have k1 := R2.out.at_ 1 _ rfl))
      | (go_at_call 21; ((with_reducible refine (cl _ (HN.out.keep HB4.out)).mono ?_); clear cl; rintro e w5 ⟨ao, c, rfl, hr, hb5⟩; have HR := Lib.hid hr; have HB5 := Lib.hid (bel2 HB4.out hb5); have R3 := Lib.hid (R2.out.keep hb5); clear hb5 k0 k1 hr; have k0 := R3.out.at_ 0 _ rfl; have k1 := R3.out.at_ 1 _ rfl))
      | (go_at_call 42; ((with_reducible refine (cx _ _ _ HR.out).mono ?_); clear cx; rintro e w6 ⟨⟨n, rfl, hn⟩, rfl⟩; obtain rfl := fst_at HND.out FM.out hn; clear hn; obtain ⟨bx, ox, px, pcx, rfl, hnx⟩ := (HN.out.keep HB5.out).2.2 x nx HX.out; have x2 := hnx.c2; clear hnx; obtain ⟨bl, ol, rfl, cl1⟩ := HR.out.2.2 m _ FM1.out; have hrc := HR.out.1; have hrm := HR.out.2.1; unfold maxLen at hrm; have hpl := preI_len s.lvs; rw [hpl] at hrc; clear hpl; have hw : wrap64 (((m + 1 : Nat) : Int) - 1) = (m : Int) := by unfold wrap64; omega))
      | fail)
    exact bodyPost_ret (v := .tuple #[.int .i64 (k : Int), .bool true]) (by simp [results, Try.results16, go_sem]) rfl ⟨rfl, HB5.out⟩
/-- adapt.Next. -/
theorem next_any (t : Int) (a : Option Addr) (cap : Nat) (N : List Nd) (y : Int) (w : World) (hN : Ns w a cap N) (hsm : Small N) (k : Option Nat) (h : NxtO N t y k) :
    Calls Try.prog 16 #[trv t a cap N, .int .i64 y] w fun e w' => e = .returned (.tuple #[.int .i64 (kI k), .bool k.isSome]) ∧ Below w.heap.size w w' := by
  rcases h with ⟨s, i, n, h, hl, hk, rfl⟩ | ⟨rfl, h⟩
  · obtain rfl := h.2.1
    exact next_yes t a cap N s i n w hN hsm h hl hk
  · rcases Classical.em (∃ s i, LfAt N t y s i) with ⟨s, i, h2⟩ | h2
    · have hl : isLf i s = true := by
        cases e : isLf i s
        · exact absurd ⟨s, i, h2, e⟩ h
        · rfl
      obtain rfl := h2.2.1
      exact next_alone t a cap N s i w hN hsm h2 hl
    · exact next_no t a cap N y w hN hsm h2
#print axioms next_any
end Go.Proofs.Yteebceecohhegaa
