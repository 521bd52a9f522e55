/- solo.Touched: the places of the leaves that an operation touches, in memory of its own. Conditions: the tree is small. -/
import Derived.Test.YtijepfabkalcoaaAeA
import Derived.Test.YtijepfabkalcoaaTrO
import Derived.Test.YtijepfabkalcoaaSlM
namespace Go.Proofs.Ytijepfabkalcoaa
open Go.RowKit
set_option linter.all false

def opv (c k hi v : Int) : Value := .agg #[.int .i64 c, .int .i64 k, .int .i64 hi, .int .i64 v]
def polv (h l cc u m : Int) : Value := .agg #[.int .i64 h, .int .i64 l, .int .i64 cc, .int .i64 u, .int .i64 m]
theorem LvW.zero {w w' : World} (h : Below w.heap.size w w') : LvW w [] (.returned (.slice none 0 0)) w' := ⟨none, 0, rfl, RI.none _ _ _ (Nat.zero_le _), (fun b o sp e => by cases e), h⟩
/-- Touched's boxes. -/
structure TB (w : World) (t : Int) (a : Option Addr) (n cap : Nat) (c k hi v : Int) (W : World) : Prop where
  t : Bk W w.heap.size [.int .i64 t, .slice a n cap]
  o : Bk W (w.heap.size + 1) [.int .i64 c, .int .i64 k, .int .i64 hi, .int .i64 v]
  b : Below w.heap.size w W
theorem TB.keep {w : World} {t : Int} {a : Option Addr} {n cap : Nat} {c k hi v : Int} {W W' : World} (h : TB w t a n cap c k hi v W) (hb : Below W.heap.size W W') : TB w t a n cap c k hi v W' := ⟨h.t.keep hb, h.o.keep hb, bel2 h.b hb⟩
theorem TB.new (w : World) (t : Int) (a : Option Addr) (n cap : Nat) (c k hi v : Int) : TB w t a n cap c k hi v ((w.alloc (.cells #[.int .i64 t, .slice a n cap] 24)).alloc (.cells #[.int .i64 c, .int .i64 k, .int .i64 hi, .int .i64 v] 28)) := by
  refine ⟨(Bk.new w _ _).past _, ?_, bel1 (al1 _) _⟩
  have h := Bk.new (w.alloc (.cells #[.int .i64 t, .slice a n cap] 24)) #[.int .i64 c, .int .i64 k, .int .i64 hi, .int .i64 v] 28
  simp only [World.size_alloc] at h; exact h
set_option maxRecDepth 100000 in
set_option maxHeartbeats 6400000 in
theorem stch_off (t : Int) (a : Option Addr) (cap : Nat) (N : List Nd) (c k hi v : Int) (w : World) (hN : Ns w a cap N) (hsm : Small N) (s : Sh) (h : Tr N s t) (hc : ¬ (1 ≤ c ∧ c ≤ 6)) :
    Calls Try.prog 16 #[trv t a cap N, opv c k hi v] w (LvW w []) := by
  have K1 := Lib.hid (TB.new w t a N.length cap c k hi v)
  have cf := fun W (hb : Below w.heap.size w W) => tfind_yes t k a cap N W (hN.keep hb) hsm s h
  unfold FdIs at cf
  have e1 : (c == 1) = false := by simp; omega
  have e2 : (c == 2) = false := by simp; omega
  have e3 : (c == 3) = false := by simp; omega
  have e4 : (c == 4) = false := by simp; omega
  have e5 : (c == 5) = false := by simp; omega
  have e6 : (c == 6) = false := by simp; omega
  unfold opv trv at *
  clear hN h hc
  go_enter Try.func16, Try.ntmps16
  go_wp2_with (go_at_call 43; ((with_reducible refine (cf _ K1.out.b).mono ?_); clear cf; rintro e w3 ⟨au, cu, ad, cd, rfl, -, -, hb3⟩; have K3 := Lib.hid ((K1.out.keep hb3).keep (al1 (.cells #[.int .i64 ((dn N k s).i : Int), .slice au (dn N k s).u.length cu, .slice ad (dn N k s).u.length cd] 91))); have P3 := Lib.hid (Bk.new w3 #[.int .i64 ((dn N k s).i : Int), .slice au (dn N k s).u.length cu, .slice ad (dn N k s).u.length cd] 91); clear hb3; have k0 := K3.out.t.at_ 0 _ rfl; have k1 := K3.out.t.at_ 1 _ rfl; have q0 := K3.out.o.at_ 0 _ rfl; have q1 := K3.out.o.at_ 1 _ rfl; have q2 := K3.out.o.at_ 2 _ rfl; have q3 := K3.out.o.at_ 3 _ rfl; have p0 := P3.out.at_ 0 _ rfl))
  go_ret
  exact LvW.zero K3.out.b
set_option maxRecDepth 100000 in
set_option maxHeartbeats 6400000 in
theorem stch_1 (t : Int) (a : Option Addr) (cap : Nat) (N : List Nd) (k hi v : Int) (w : World) (hN : Ns w a cap N) (hsm : Small N) (s : Sh) (h : Tr N s t) :
    Calls Try.prog 16 #[trv t a cap N, opv 1 k hi v] w (LvW w [(dn N k s).i]) := by
  have K1 := Lib.hid (TB.new w t a N.length cap 1 k hi v)
  have cf := fun W (hb : Below w.heap.size w W) => tfind_yes t k a cap N W (hN.keep hb) hsm s h
  unfold FdIs at cf
  unfold opv trv at *
  clear hN h
  go_enter Try.func16, Try.ntmps16
  go_wp2_with (go_at_call 43; ((with_reducible refine (cf _ K1.out.b).mono ?_); clear cf; rintro e w3 ⟨au, cu, ad, cd, rfl, -, -, hb3⟩; have K3 := Lib.hid ((K1.out.keep hb3).keep (al1 (.cells #[.int .i64 ((dn N k s).i : Int), .slice au (dn N k s).u.length cu, .slice ad (dn N k s).u.length cd] 91))); have P3 := Lib.hid (Bk.new w3 #[.int .i64 ((dn N k s).i : Int), .slice au (dn N k s).u.length cu, .slice ad (dn N k s).u.length cd] 91); clear hb3; have k0 := K3.out.t.at_ 0 _ rfl; have k1 := K3.out.t.at_ 1 _ rfl; have q0 := K3.out.o.at_ 0 _ rfl; have q1 := K3.out.o.at_ 1 _ rfl; have q2 := K3.out.o.at_ 2 _ rfl; have q3 := K3.out.o.at_ 3 _ rfl; have p0 := P3.out.at_ 0 _ rfl))
  go_ret
  have h1 := RI.one (w3.alloc (.cells #[.int .i64 ((dn N k s).i : Int), .slice au (dn N k s).u.length cu, .slice ad (dn N k s).u.length cd] 91)) ((dn N k s).i : Int)
  simp only [World.size_alloc] at h1
  exact ⟨_, 1, rfl, h1, (fun b o sp e => by cases e; have := K3.out.b.size; simp only [World.size_alloc] at this; exact this), bel1 K3.out.b _⟩
set_option maxRecDepth 100000 in
set_option maxHeartbeats 6400000 in
theorem stch_2 (t : Int) (a : Option Addr) (cap : Nat) (N : List Nd) (k hi v : Int) (w : World) (hN : Ns w a cap N) (hsm : Small N) (s : Sh) (h : Tr N s t) :
    Calls Try.prog 16 #[trv t a cap N, opv 2 k hi v] w (LvW w [(dn N k s).i]) := by
  have K1 := Lib.hid (TB.new w t a N.length cap 2 k hi v)
  have cf := fun W (hb : Below w.heap.size w W) => tfind_yes t k a cap N W (hN.keep hb) hsm s h
  unfold FdIs at cf
  unfold opv trv at *
  clear hN h
  go_enter Try.func16, Try.ntmps16
  go_wp2_with (go_at_call 43; ((with_reducible refine (cf _ K1.out.b).mono ?_); clear cf; rintro e w3 ⟨au, cu, ad, cd, rfl, -, -, hb3⟩; have K3 := Lib.hid ((K1.out.keep hb3).keep (al1 (.cells #[.int .i64 ((dn N k s).i : Int), .slice au (dn N k s).u.length cu, .slice ad (dn N k s).u.length cd] 91))); have P3 := Lib.hid (Bk.new w3 #[.int .i64 ((dn N k s).i : Int), .slice au (dn N k s).u.length cu, .slice ad (dn N k s).u.length cd] 91); clear hb3; have k0 := K3.out.t.at_ 0 _ rfl; have k1 := K3.out.t.at_ 1 _ rfl; have q0 := K3.out.o.at_ 0 _ rfl; have q1 := K3.out.o.at_ 1 _ rfl; have q2 := K3.out.o.at_ 2 _ rfl; have q3 := K3.out.o.at_ 3 _ rfl; have p0 := P3.out.at_ 0 _ rfl))
  go_ret
  have h1 := RI.one (w3.alloc (.cells #[.int .i64 ((dn N k s).i : Int), .slice au (dn N k s).u.length cu, .slice ad (dn N k s).u.length cd] 91)) ((dn N k s).i : Int)
  simp only [World.size_alloc] at h1
  exact ⟨_, 1, rfl, h1, (fun b o sp e => by cases e; have := K3.out.b.size; simp only [World.size_alloc] at this; exact this), bel1 K3.out.b _⟩
set_option maxRecDepth 100000 in
set_option maxHeartbeats 6400000 in
theorem stch_3 (t : Int) (a : Option Addr) (cap : Nat) (N : List Nd) (k hi v : Int) (w : World) (hN : Ns w a cap N) (hsm : Small N) (s : Sh) (h : Tr N s t) :
    Calls Try.prog 16 #[trv t a cap N, opv 3 k hi v] w (LvW w [(dn N k s).i]) := by
  have K1 := Lib.hid (TB.new w t a N.length cap 3 k hi v)
  have cf := fun W (hb : Below w.heap.size w W) => tfind_yes t k a cap N W (hN.keep hb) hsm s h
  unfold FdIs at cf
  unfold opv trv at *
  clear hN h
  go_enter Try.func16, Try.ntmps16
  go_wp2_with (go_at_call 43; ((with_reducible refine (cf _ K1.out.b).mono ?_); clear cf; rintro e w3 ⟨au, cu, ad, cd, rfl, -, -, hb3⟩; have K3 := Lib.hid ((K1.out.keep hb3).keep (al1 (.cells #[.int .i64 ((dn N k s).i : Int), .slice au (dn N k s).u.length cu, .slice ad (dn N k s).u.length cd] 91))); have P3 := Lib.hid (Bk.new w3 #[.int .i64 ((dn N k s).i : Int), .slice au (dn N k s).u.length cu, .slice ad (dn N k s).u.length cd] 91); clear hb3; have k0 := K3.out.t.at_ 0 _ rfl; have k1 := K3.out.t.at_ 1 _ rfl; have q0 := K3.out.o.at_ 0 _ rfl; have q1 := K3.out.o.at_ 1 _ rfl; have q2 := K3.out.o.at_ 2 _ rfl; have q3 := K3.out.o.at_ 3 _ rfl; have p0 := P3.out.at_ 0 _ rfl))
  go_ret
  have h1 := RI.one (w3.alloc (.cells #[.int .i64 ((dn N k s).i : Int), .slice au (dn N k s).u.length cu, .slice ad (dn N k s).u.length cd] 91)) ((dn N k s).i : Int)
  simp only [World.size_alloc] at h1
  exact ⟨_, 1, rfl, h1, (fun b o sp e => by cases e; have := K3.out.b.size; simp only [World.size_alloc] at this; exact this), bel1 K3.out.b _⟩
set_option maxRecDepth 100000 in
set_option maxHeartbeats 6400000 in
theorem stch_4 (t : Int) (a : Option Addr) (cap : Nat) (N : List Nd) (k hi v : Int) (w : World) (hN : Ns w a cap N) (hsm : Small N) (s : Sh) (h : Tr N s t) :
    Calls Try.prog 16 #[trv t a cap N, opv 4 k hi v] w (LvW w [(dn N k s).i]) := by
  have K1 := Lib.hid (TB.new w t a N.length cap 4 k hi v)
  have cf := fun W (hb : Below w.heap.size w W) => tfind_yes t k a cap N W (hN.keep hb) hsm s h
  unfold FdIs at cf
  unfold opv trv at *
  clear hN h
  go_enter Try.func16, Try.ntmps16
  go_wp2_with (go_at_call 43; ((with_reducible refine (cf _ K1.out.b).mono ?_); clear cf; rintro e w3 ⟨au, cu, ad, cd, rfl, -, -, hb3⟩; have K3 := Lib.hid ((K1.out.keep hb3).keep (al1 (.cells #[.int .i64 ((dn N k s).i : Int), .slice au (dn N k s).u.length cu, .slice ad (dn N k s).u.length cd] 91))); have P3 := Lib.hid (Bk.new w3 #[.int .i64 ((dn N k s).i : Int), .slice au (dn N k s).u.length cu, .slice ad (dn N k s).u.length cd] 91); clear hb3; have k0 := K3.out.t.at_ 0 _ rfl; have k1 := K3.out.t.at_ 1 _ rfl; have q0 := K3.out.o.at_ 0 _ rfl; have q1 := K3.out.o.at_ 1 _ rfl; have q2 := K3.out.o.at_ 2 _ rfl; have q3 := K3.out.o.at_ 3 _ rfl; have p0 := P3.out.at_ 0 _ rfl))
  go_ret
  have h1 := RI.one (w3.alloc (.cells #[.int .i64 ((dn N k s).i : Int), .slice au (dn N k s).u.length cu, .slice ad (dn N k s).u.length cd] 91)) ((dn N k s).i : Int)
  simp only [World.size_alloc] at h1
  exact ⟨_, 1, rfl, h1, (fun b o sp e => by cases e; have := K3.out.b.size; simp only [World.size_alloc] at this; exact this), bel1 K3.out.b _⟩
set_option maxRecDepth 100000 in
set_option maxHeartbeats 6400000 in
theorem stch_5w (t : Int) (a : Option Addr) (cap : Nat) (N : List Nd) (k hi v : Int) (w : World) (hN : Ns w a cap N) (hsm : Small N) (s : Sh) (h : Tr N s t) (hk : hi < k) :
    Calls Try.prog 16 #[trv t a cap N, opv 5 k hi v] w (LvW w []) := by
  have K1 := Lib.hid (TB.new w t a N.length cap 5 k hi v)
  have cf := fun W (hb : Below w.heap.size w W) => tfind_yes t k a cap N W (hN.keep hb) hsm s h
  unfold FdIs at cf
  unfold opv trv at *
  clear hN h
  go_enter Try.func16, Try.ntmps16
  go_wp2_with (go_at_call 43; ((with_reducible refine (cf _ K1.out.b).mono ?_); clear cf; rintro e w3 ⟨au, cu, ad, cd, rfl, -, -, hb3⟩; have K3 := Lib.hid ((K1.out.keep hb3).keep (al1 (.cells #[.int .i64 ((dn N k s).i : Int), .slice au (dn N k s).u.length cu, .slice ad (dn N k s).u.length cd] 91))); have P3 := Lib.hid (Bk.new w3 #[.int .i64 ((dn N k s).i : Int), .slice au (dn N k s).u.length cu, .slice ad (dn N k s).u.length cd] 91); clear hb3; have k0 := K3.out.t.at_ 0 _ rfl; have k1 := K3.out.t.at_ 1 _ rfl; have q0 := K3.out.o.at_ 0 _ rfl; have q1 := K3.out.o.at_ 1 _ rfl; have q2 := K3.out.o.at_ 2 _ rfl; have q3 := K3.out.o.at_ 3 _ rfl; have p0 := P3.out.at_ 0 _ rfl))
  go_ret
  exact LvW.zero K3.out.b
set_option maxRecDepth 100000 in
set_option maxHeartbeats 6400000 in
theorem stch_5y (t : Int) (a : Option Addr) (cap : Nat) (N : List Nd) (k hi v : Int) (w : World) (hN : Ns w a cap N) (hsm : Small N) (s : Sh) (h : Tr N s t) (hk : ¬ hi < k) :
    Calls Try.prog 16 #[trv t a cap N, opv 5 k hi v] w (LvW w (tch N s k hi)) := by
  have K1 := Lib.hid (TB.new w t a N.length cap 5 k hi v)
  have cf := fun W (hb : Below w.heap.size w W) => tfind_yes t k a cap N W (hN.keep hb) hsm s h
  unfold FdIs at cf
  have cf2 := fun W (hb : Below w.heap.size w W) => tfind_yes t hi a cap N W (hN.keep hb) hsm s h
  unfold FdIs at cf2
  have cl := fun W (hb : Below w.heap.size w W) => tleaves_own t a cap N W (hN.keep hb) hsm s h
  unfold LvW at cl
  have cx := fun (x : Int) (W : World) {ao : Option Addr} {c : Nat} (hR : RI W ao c (preI s.lvs)) => ixI_any ao c (preI s.lvs) x W hR
  have hpl := preI_len s.lvs
  simp only [hpl] at cx
  have HND := Lib.hid (lvs_nodup h.nd)
  obtain ⟨ia, ib, hab, ha, hb⟩ := dn_mono (N := N) (Int.not_lt.1 hk) s
  have HT := Lib.hid (show tch N s k hi = (s.lvs.take (ib + 1)).drop ia from tchL_is (lvs_nodup h.nd) hab ha hb)
  have hbl := (List.getElem?_eq_some_iff.1 hb).1
  have FA := Lib.hid ha
  have FB := Lib.hid hb
  have hll : s.lvs.length ≤ 2000 := by have := lvs_len s; have := h.all; have := hsm.1; omega
  unfold opv trv at *
  clear hN h ha hb hpl
  go_enter Try.func16, Try.ntmps16
  go_upto_region 16 with (first
    | (go_at_call 43; ((with_reducible refine (cf _ K1.out.b).mono ?_); clear cf; rintro e w3 ⟨au, cu, ad, cd, rfl, -, -, hb3⟩; have K3 := Lib.hid ((K1.out.keep hb3).keep (al1 (.cells #[.int .i64 ((dn N k s).i : Int), .slice au (dn N k s).u.length cu, .slice ad (dn N k s).u.length cd] 91))); have P3 := Lib.hid (Bk.new w3 #[.int .i64 ((dn N k s).i : Int), .slice au (dn N k s).u.length cu, .slice ad (dn N k s).u.length cd] 91); clear hb3; have k0 := K3.out.t.at_ 0 _ rfl; have k1 := K3.out.t.at_ 1 _ rfl; have q0 := K3.out.o.at_ 0 _ rfl; have q1 := K3.out.o.at_ 1 _ rfl; have q2 := K3.out.o.at_ 2 _ rfl; have q3 := K3.out.o.at_ 3 _ rfl; have p0 := P3.out.at_ 0 _ rfl))
    | (go_at_call 43; ((with_reducible refine (cf2 _ K3.out.b).mono ?_); clear cf2; rintro e w4 ⟨au2, cu2, ad2, cd2, rfl, -, -, hb4⟩; have K4 := Lib.hid ((K3.out.keep hb4).keep (al1 (.cells #[.int .i64 ((dn N hi s).i : Int), .slice au2 (dn N hi s).u.length cu2, .slice ad2 (dn N hi s).u.length cd2] 91))); have P4 := Lib.hid ((P3.out.keep hb4).keep (al1 (.cells #[.int .i64 ((dn N hi s).i : Int), .slice au2 (dn N hi s).u.length cu2, .slice ad2 (dn N hi s).u.length cd2] 91))); have R4 := Lib.hid (Bk.new w4 #[.int .i64 ((dn N hi s).i : Int), .slice au2 (dn N hi s).u.length cu2, .slice ad2 (dn N hi s).u.length cd2] 91); clear hb4 p0; clear k0 k1 q0 q1 q2 q3; have k0 := K4.out.t.at_ 0 _ rfl; have k1 := K4.out.t.at_ 1 _ rfl; have q0 := K4.out.o.at_ 0 _ rfl; have q1 := K4.out.o.at_ 1 _ rfl; have q2 := K4.out.o.at_ 2 _ rfl; have q3 := K4.out.o.at_ 3 _ rfl; have p0 := P4.out.at_ 0 _ rfl; have r0 := R4.out.at_ 0 _ rfl))
    | (go_at_call 18; ((with_reducible refine (cl _ K4.out.b).mono ?_); clear cl; rintro e w5 ⟨al, cl, rfl, hr, hav, hb5⟩; have K5 := Lib.hid (K4.out.keep hb5); have P5 := Lib.hid (P4.out.keep hb5); have R5 := Lib.hid (R4.out.keep hb5); have HR0 := Lib.hid hr; have HAV := Lib.hid hav; have HS4 := Lib.hid K4.out.b.size; clear hb5 p0 r0 hr hav; clear k0 k1 q0 q1 q2 q3; have p0 := P5.out.at_ 0 _ rfl; have r0 := R5.out.at_ 0 _ rfl))
    | fail)
  obtain ⟨b, o, rfl, -⟩ := HR0.out.2.2 ia _ (preI_get FA.out)
  have HR := Lib.hid HR0.out
  have hc1 := HR.out.1
  have hc2 := HR.out.2.1
  rw [preI_len] at hc1
  unfold maxLen at hc2
  have hw : wrap64 ((ib : Int) + 1) = ((ib + 1 : Nat) : Int) := by unfold wrap64; omega
  have hw' : IntKind.i64.wrap ((ib : Int) + 1) = ((ib + 1 : Nat) : Int) := by rw [IntKind.wrap_i64]; omega
  have h1 : (0 : Int) ≤ (ia : Int) := by omega
  have h2 : (ia : Int) ≤ ((ib + 1 : Nat) : Int) := by omega
  have h3 : ((ib + 1 : Nat) : Int) ≤ (cl : Int) := by omega
  have h4 : ¬ cl = ia := by omega
  have h5 : (0 : Int) ≤ (ib : Int) + 1 := by omega
  have h6 : (ib : Int) + 1 ≤ (cl : Int) := by omega
  have h7 : ia ≤ ib + 1 := by omega
  simp only [World.size_alloc] at HAV HS4
  refine wp_region_held_drew (S := (fun W => W.cell? ⟨w3.heap.size, 0, none⟩ = some (.int .i64 ((dn N k s).i : Int)) ∧ W.cell? ⟨w4.heap.size, 0, none⟩ = some (.int .i64 ((dn N hi s).i : Int)) ∧ RI W (some ⟨b, o, none⟩) cl (preI s.lvs) ∧ Below w.heap.size w W)) (by kernel_rfl) (by first | exact ⟨p0, r0, HR.out, K5.out.b⟩ | exact ⟨p0, r0, HR.out.below ((Below.refl _ _).drew), K5.out.b.drew⟩) (fun hHeld => ?_)
  refine tk 0 ?_ rfl (by kernel_rfl) (fun _ _ _ h => h) ⟨by rfl, ?_⟩ hHeld ?_; rotate_left
  · intro wS hSw; (try dsimp only at hSw); (try go_split_ands); go_simp; try with_reducible rfl
  refine tk 1 ?_ rfl (by kernel_rfl) (fun _ _ _ h => h) ⟨by rfl, ?_⟩ hHeld ?_; rotate_left
  · intro wS hSw; (try dsimp only at hSw); (try go_split_ands); go_simp; try with_reducible rfl
  refine tk 2 ?_ rfl (by kernel_rfl) (fun _ _ _ h => h) ⟨by rfl, ?_⟩ hHeld ?_; rotate_left
  · intro wS hSw; (try dsimp only at hSw); (try go_split_ands); go_simp; try with_reducible rfl
  refine tk 3 ?_ rfl (by kernel_rfl) (fun _ _ _ h => h) ⟨by rfl, ?_⟩ hHeld ?_; rotate_left
  · intro wS hSw; (try dsimp only at hSw); (try go_split_ands); go_simp; try with_reducible rfl
  refine tk 5 ?_ rfl (by kernel_rfl) (fun _ _ _ h => h) ⟨by rfl, ?_⟩ hHeld ?_; rotate_left
  · intro wS hSw; (try dsimp only at hSw); (try go_split_ands); go_simp; try with_reducible rfl
  refine tk 6 ?_ rfl (by kernel_rfl) (fun _ _ _ h => h) ⟨by rfl, ?_⟩ hHeld ?_; rotate_left
  · intro wS hSw; (try dsimp only at hSw); (try go_split_ands); go_simp; try with_reducible rfl
  refine tk 7 ?_ rfl (by kernel_rfl) (fun _ _ _ h => h) ⟨by rfl, ?_⟩ hHeld ?_; rotate_left
  · intro wS hSw; (try dsimp only at hSw); (try go_split_ands); go_simp; try with_reducible rfl
  try simp only [List.getElem_toArray, List.getElem_cons_succ, List.getElem_cons_zero, Act.put, List.setIfInBounds_toArray, List.set_cons_zero, List.set_cons_succ]
  refine wpAnyH_ready (rs := [4]) (by kernel_rfl) (by simp) ?_
  refine AllReadyH.cons rfl (fun K hK => ?_) AllReadyH.nil
  go_simp
  (go_at_call 44; ((with_reducible refine (cx _ _ hHeld.2.2.1).mono ?_); rintro e X ⟨⟨n, rfl, hn⟩, rfl⟩; obtain rfl := fst_at HND.out FA.out hn; clear hn))
  refine hK.out _ _ ?_ (fun hNext => ?_)
  · exact hHeld
  clear hK K hHeld
  have hHeld := hNext
  clear hNext
  try simp only [List.getElem_toArray, List.getElem_cons_succ, List.getElem_cons_zero, Act.put, List.setIfInBounds_toArray, List.set_cons_zero, List.set_cons_succ]
  refine wpAnyH_ready (rs := [8]) (by kernel_rfl) (by simp) ?_
  refine AllReadyH.cons rfl (fun K hK => ?_) AllReadyH.nil
  go_simp
  (go_at_call 44; ((with_reducible refine (cx _ _ hHeld.2.2.1).mono ?_); rintro e X ⟨⟨n, rfl, hn⟩, rfl⟩; obtain rfl := fst_at HND.out FB.out hn; clear hn))
  refine hK.out _ _ ?_ (fun hNext => ?_)
  · exact hHeld
  clear hK K hHeld
  have hHeld := hNext
  clear hNext
  try simp only [List.getElem_toArray, List.getElem_cons_succ, List.getElem_cons_zero, Act.put, List.setIfInBounds_toArray, List.set_cons_zero, List.set_cons_succ]
  refine tk 9 ?_ rfl (by kernel_rfl) (fun _ _ _ h => h) ⟨by rfl, ?_⟩ hHeld ?_; rotate_left
  · intro wS hSw; (try dsimp only at hSw); (try go_split_ands); go_simp; try with_reducible rfl
  refine tk 10 ?_ rfl (by kernel_rfl) (fun _ _ _ h => h) ⟨by rfl, ?_⟩ hHeld ?_; rotate_left
  · intro wS hSw; (try dsimp only at hSw); (try go_split_ands); go_simp; try with_reducible rfl
  refine tk 11 ?_ rfl (by kernel_rfl) (fun _ _ _ h => h) ⟨by rfl, ?_⟩ hHeld ?_; rotate_left
  · intro wS hSw; (try dsimp only at hSw); (try go_split_ands); go_simp; try with_reducible rfl
  try simp only [List.getElem_toArray, List.getElem_cons_succ, List.getElem_cons_zero, Act.put, List.setIfInBounds_toArray, List.set_cons_zero, List.set_cons_succ]
  refine wpAnyH_done (by kernel_rfl) ?_ _
  clear p0 r0
  go_wp2_with (fail)
  go_ret
  have hlen : (tch N s k hi).length = ib + 1 - ia := by rw [HT.out, List.length_drop, List.length_take]; omega
  have hp : preI (tch N s k hi) = ((preI s.lvs).take (ib + 1)).drop ia := by rw [HT.out]; unfold preI; rw [List.map_drop, List.map_take]
  obtain ⟨-, r1⟩ := HR.out.take (ib + 1) (by rw [preI_len]; omega)
  obtain ⟨aD, -, r2, r3⟩ := r1.drop ia (by rw [List.length_take, preI_len]; omega)
  obtain rfl : aD = some ⟨b, o + ia, none⟩ := by
    rcases r3 with ⟨e, _⟩ | ⟨_, e⟩
    · exact absurd e h4
    · exact e
  have hb := HAV.out b o none rfl
  refine ⟨some ⟨b, o + ia, none⟩, cl - ia, (by rw [hlen]; rfl), ?_, (fun b' o' sp e => by cases e; have := HS4.out; omega), ?_⟩
  · rw [hp]; first | exact r2 | exact r2.below ((Below.refl _ _).drew)
  · first | exact K5.out.b | exact K5.out.b.drew
set_option maxRecDepth 100000 in
set_option maxHeartbeats 6400000 in
theorem stch_6w (t : Int) (a : Option Addr) (cap : Nat) (N : List Nd) (k hi v : Int) (w : World) (hN : Ns w a cap N) (hsm : Small N) (s : Sh) (h : Tr N s t) (hk : hi < k) :
    Calls Try.prog 16 #[trv t a cap N, opv 6 k hi v] w (LvW w []) := by
  have K1 := Lib.hid (TB.new w t a N.length cap 6 k hi v)
  have cf := fun W (hb : Below w.heap.size w W) => tfind_yes t k a cap N W (hN.keep hb) hsm s h
  unfold FdIs at cf
  unfold opv trv at *
  clear hN h
  go_enter Try.func16, Try.ntmps16
  go_wp2_with (go_at_call 43; ((with_reducible refine (cf _ K1.out.b).mono ?_); clear cf; rintro e w3 ⟨au, cu, ad, cd, rfl, -, -, hb3⟩; have K3 := Lib.hid ((K1.out.keep hb3).keep (al1 (.cells #[.int .i64 ((dn N k s).i : Int), .slice au (dn N k s).u.length cu, .slice ad (dn N k s).u.length cd] 91))); have P3 := Lib.hid (Bk.new w3 #[.int .i64 ((dn N k s).i : Int), .slice au (dn N k s).u.length cu, .slice ad (dn N k s).u.length cd] 91); clear hb3; have k0 := K3.out.t.at_ 0 _ rfl; have k1 := K3.out.t.at_ 1 _ rfl; have q0 := K3.out.o.at_ 0 _ rfl; have q1 := K3.out.o.at_ 1 _ rfl; have q2 := K3.out.o.at_ 2 _ rfl; have q3 := K3.out.o.at_ 3 _ rfl; have p0 := P3.out.at_ 0 _ rfl))
  go_ret
  exact LvW.zero K3.out.b
set_option maxRecDepth 100000 in
set_option maxHeartbeats 6400000 in
theorem stch_6y (t : Int) (a : Option Addr) (cap : Nat) (N : List Nd) (k hi v : Int) (w : World) (hN : Ns w a cap N) (hsm : Small N) (s : Sh) (h : Tr N s t) (hk : ¬ hi < k) :
    Calls Try.prog 16 #[trv t a cap N, opv 6 k hi v] w (LvW w (tch N s k hi)) := by
  have K1 := Lib.hid (TB.new w t a N.length cap 6 k hi v)
  have cf := fun W (hb : Below w.heap.size w W) => tfind_yes t k a cap N W (hN.keep hb) hsm s h
  unfold FdIs at cf
  have cf2 := fun W (hb : Below w.heap.size w W) => tfind_yes t hi a cap N W (hN.keep hb) hsm s h
  unfold FdIs at cf2
  have cl := fun W (hb : Below w.heap.size w W) => tleaves_own t a cap N W (hN.keep hb) hsm s h
  unfold LvW at cl
  have cx := fun (x : Int) (W : World) {ao : Option Addr} {c : Nat} (hR : RI W ao c (preI s.lvs)) => ixI_any ao c (preI s.lvs) x W hR
  have hpl := preI_len s.lvs
  simp only [hpl] at cx
  have HND := Lib.hid (lvs_nodup h.nd)
  obtain ⟨ia, ib, hab, ha, hb⟩ := dn_mono (N := N) (Int.not_lt.1 hk) s
  have HT := Lib.hid (show tch N s k hi = (s.lvs.take (ib + 1)).drop ia from tchL_is (lvs_nodup h.nd) hab ha hb)
  have hbl := (List.getElem?_eq_some_iff.1 hb).1
  have FA := Lib.hid ha
  have FB := Lib.hid hb
  have hll : s.lvs.length ≤ 2000 := by have := lvs_len s; have := h.all; have := hsm.1; omega
  unfold opv trv at *
  clear hN h ha hb hpl
  go_enter Try.func16, Try.ntmps16
  go_upto_region 16 with (first
    | (go_at_call 43; ((with_reducible refine (cf _ K1.out.b).mono ?_); clear cf; rintro e w3 ⟨au, cu, ad, cd, rfl, -, -, hb3⟩; have K3 := Lib.hid ((K1.out.keep hb3).keep (al1 (.cells #[.int .i64 ((dn N k s).i : Int), .slice au (dn N k s).u.length cu, .slice ad (dn N k s).u.length cd] 91))); have P3 := Lib.hid (Bk.new w3 #[.int .i64 ((dn N k s).i : Int), .slice au (dn N k s).u.length cu, .slice ad (dn N k s).u.length cd] 91); clear hb3; have k0 := K3.out.t.at_ 0 _ rfl; have k1 := K3.out.t.at_ 1 _ rfl; have q0 := K3.out.o.at_ 0 _ rfl; have q1 := K3.out.o.at_ 1 _ rfl; have q2 := K3.out.o.at_ 2 _ rfl; have q3 := K3.out.o.at_ 3 _ rfl; have p0 := P3.out.at_ 0 _ rfl))
    | (go_at_call 43; ((with_reducible refine (cf2 _ K3.out.b).mono ?_); clear cf2; rintro e w4 ⟨au2, cu2, ad2, cd2, rfl, -, -, hb4⟩; have K4 := Lib.hid ((K3.out.keep hb4).keep (al1 (.cells #[.int .i64 ((dn N hi s).i : Int), .slice au2 (dn N hi s).u.length cu2, .slice ad2 (dn N hi s).u.length cd2] 91))); have P4 := Lib.hid ((P3.out.keep hb4).keep (al1 (.cells #[.int .i64 ((dn N hi s).i : Int), .slice au2 (dn N hi s).u.length cu2, .slice ad2 (dn N hi s).u.length cd2] 91))); have R4 := Lib.hid (Bk.new w4 #[.int .i64 ((dn N hi s).i : Int), .slice au2 (dn N hi s).u.length cu2, .slice ad2 (dn N hi s).u.length cd2] 91); clear hb4 p0; clear k0 k1 q0 q1 q2 q3; have k0 := K4.out.t.at_ 0 _ rfl; have k1 := K4.out.t.at_ 1 _ rfl; have q0 := K4.out.o.at_ 0 _ rfl; have q1 := K4.out.o.at_ 1 _ rfl; have q2 := K4.out.o.at_ 2 _ rfl; have q3 := K4.out.o.at_ 3 _ rfl; have p0 := P4.out.at_ 0 _ rfl; have r0 := R4.out.at_ 0 _ rfl))
    | (go_at_call 18; ((with_reducible refine (cl _ K4.out.b).mono ?_); clear cl; rintro e w5 ⟨al, cl, rfl, hr, hav, hb5⟩; have K5 := Lib.hid (K4.out.keep hb5); have P5 := Lib.hid (P4.out.keep hb5); have R5 := Lib.hid (R4.out.keep hb5); have HR0 := Lib.hid hr; have HAV := Lib.hid hav; have HS4 := Lib.hid K4.out.b.size; clear hb5 p0 r0 hr hav; clear k0 k1 q0 q1 q2 q3; have p0 := P5.out.at_ 0 _ rfl; have r0 := R5.out.at_ 0 _ rfl))
    | fail)
  obtain ⟨b, o, rfl, -⟩ := HR0.out.2.2 ia _ (preI_get FA.out)
  have HR := Lib.hid HR0.out
  have hc1 := HR.out.1
  have hc2 := HR.out.2.1
  rw [preI_len] at hc1
  unfold maxLen at hc2
  have hw : wrap64 ((ib : Int) + 1) = ((ib + 1 : Nat) : Int) := by unfold wrap64; omega
  have hw' : IntKind.i64.wrap ((ib : Int) + 1) = ((ib + 1 : Nat) : Int) := by rw [IntKind.wrap_i64]; omega
  have h1 : (0 : Int) ≤ (ia : Int) := by omega
  have h2 : (ia : Int) ≤ ((ib + 1 : Nat) : Int) := by omega
  have h3 : ((ib + 1 : Nat) : Int) ≤ (cl : Int) := by omega
  have h4 : ¬ cl = ia := by omega
  have h5 : (0 : Int) ≤ (ib : Int) + 1 := by omega
  have h6 : (ib : Int) + 1 ≤ (cl : Int) := by omega
  have h7 : ia ≤ ib + 1 := by omega
  simp only [World.size_alloc] at HAV HS4
  refine wp_region_held_drew (S := (fun W => W.cell? ⟨w3.heap.size, 0, none⟩ = some (.int .i64 ((dn N k s).i : Int)) ∧ W.cell? ⟨w4.heap.size, 0, none⟩ = some (.int .i64 ((dn N hi s).i : Int)) ∧ RI W (some ⟨b, o, none⟩) cl (preI s.lvs) ∧ Below w.heap.size w W)) (by kernel_rfl) (by first | exact ⟨p0, r0, HR.out, K5.out.b⟩ | exact ⟨p0, r0, HR.out.below ((Below.refl _ _).drew), K5.out.b.drew⟩) (fun hHeld => ?_)
  refine tk 0 ?_ rfl (by kernel_rfl) (fun _ _ _ h => h) ⟨by rfl, ?_⟩ hHeld ?_; rotate_left
  · intro wS hSw; (try dsimp only at hSw); (try go_split_ands); go_simp; try with_reducible rfl
  refine tk 1 ?_ rfl (by kernel_rfl) (fun _ _ _ h => h) ⟨by rfl, ?_⟩ hHeld ?_; rotate_left
  · intro wS hSw; (try dsimp only at hSw); (try go_split_ands); go_simp; try with_reducible rfl
  refine tk 2 ?_ rfl (by kernel_rfl) (fun _ _ _ h => h) ⟨by rfl, ?_⟩ hHeld ?_; rotate_left
  · intro wS hSw; (try dsimp only at hSw); (try go_split_ands); go_simp; try with_reducible rfl
  refine tk 3 ?_ rfl (by kernel_rfl) (fun _ _ _ h => h) ⟨by rfl, ?_⟩ hHeld ?_; rotate_left
  · intro wS hSw; (try dsimp only at hSw); (try go_split_ands); go_simp; try with_reducible rfl
  refine tk 5 ?_ rfl (by kernel_rfl) (fun _ _ _ h => h) ⟨by rfl, ?_⟩ hHeld ?_; rotate_left
  · intro wS hSw; (try dsimp only at hSw); (try go_split_ands); go_simp; try with_reducible rfl
  refine tk 6 ?_ rfl (by kernel_rfl) (fun _ _ _ h => h) ⟨by rfl, ?_⟩ hHeld ?_; rotate_left
  · intro wS hSw; (try dsimp only at hSw); (try go_split_ands); go_simp; try with_reducible rfl
  refine tk 7 ?_ rfl (by kernel_rfl) (fun _ _ _ h => h) ⟨by rfl, ?_⟩ hHeld ?_; rotate_left
  · intro wS hSw; (try dsimp only at hSw); (try go_split_ands); go_simp; try with_reducible rfl
  try simp only [List.getElem_toArray, List.getElem_cons_succ, List.getElem_cons_zero, Act.put, List.setIfInBounds_toArray, List.set_cons_zero, List.set_cons_succ]
  refine wpAnyH_ready (rs := [4]) (by kernel_rfl) (by simp) ?_
  refine AllReadyH.cons rfl (fun K hK => ?_) AllReadyH.nil
  go_simp
  (go_at_call 44; ((with_reducible refine (cx _ _ hHeld.2.2.1).mono ?_); rintro e X ⟨⟨n, rfl, hn⟩, rfl⟩; obtain rfl := fst_at HND.out FA.out hn; clear hn))
  refine hK.out _ _ ?_ (fun hNext => ?_)
  · exact hHeld
  clear hK K hHeld
  have hHeld := hNext
  clear hNext
  try simp only [List.getElem_toArray, List.getElem_cons_succ, List.getElem_cons_zero, Act.put, List.setIfInBounds_toArray, List.set_cons_zero, List.set_cons_succ]
  refine wpAnyH_ready (rs := [8]) (by kernel_rfl) (by simp) ?_
  refine AllReadyH.cons rfl (fun K hK => ?_) AllReadyH.nil
  go_simp
  (go_at_call 44; ((with_reducible refine (cx _ _ hHeld.2.2.1).mono ?_); rintro e X ⟨⟨n, rfl, hn⟩, rfl⟩; obtain rfl := fst_at HND.out FB.out hn; clear hn))
  refine hK.out _ _ ?_ (fun hNext => ?_)
  · exact hHeld
  clear hK K hHeld
  have hHeld := hNext
  clear hNext
  try simp only [List.getElem_toArray, List.getElem_cons_succ, List.getElem_cons_zero, Act.put, List.setIfInBounds_toArray, List.set_cons_zero, List.set_cons_succ]
  refine tk 9 ?_ rfl (by kernel_rfl) (fun _ _ _ h => h) ⟨by rfl, ?_⟩ hHeld ?_; rotate_left
  · intro wS hSw; (try dsimp only at hSw); (try go_split_ands); go_simp; try with_reducible rfl
  refine tk 10 ?_ rfl (by kernel_rfl) (fun _ _ _ h => h) ⟨by rfl, ?_⟩ hHeld ?_; rotate_left
  · intro wS hSw; (try dsimp only at hSw); (try go_split_ands); go_simp; try with_reducible rfl
  refine tk 11 ?_ rfl (by kernel_rfl) (fun _ _ _ h => h) ⟨by rfl, ?_⟩ hHeld ?_; rotate_left
  · intro wS hSw; (try dsimp only at hSw); (try go_split_ands); go_simp; try with_reducible rfl
  try simp only [List.getElem_toArray, List.getElem_cons_succ, List.getElem_cons_zero, Act.put, List.setIfInBounds_toArray, List.set_cons_zero, List.set_cons_succ]
  refine wpAnyH_done (by kernel_rfl) ?_ _
  clear p0 r0
  go_wp2_with (fail)
  go_ret
  have hlen : (tch N s k hi).length = ib + 1 - ia := by rw [HT.out, List.length_drop, List.length_take]; omega
  have hp : preI (tch N s k hi) = ((preI s.lvs).take (ib + 1)).drop ia := by rw [HT.out]; unfold preI; rw [List.map_drop, List.map_take]
  obtain ⟨-, r1⟩ := HR.out.take (ib + 1) (by rw [preI_len]; omega)
  obtain ⟨aD, -, r2, r3⟩ := r1.drop ia (by rw [List.length_take, preI_len]; omega)
  obtain rfl : aD = some ⟨b, o + ia, none⟩ := by
    rcases r3 with ⟨e, _⟩ | ⟨_, e⟩
    · exact absurd e h4
    · exact e
  have hb := HAV.out b o none rfl
  refine ⟨some ⟨b, o + ia, none⟩, cl - ia, (by rw [hlen]; rfl), ?_, (fun b' o' sp e => by cases e; have := HS4.out; omega), ?_⟩
  · rw [hp]; first | exact r2 | exact r2.below ((Below.refl _ _).drew)
  · first | exact K5.out.b | exact K5.out.b.drew

/-- The leaves that a call touches; none of what is no operation. -/
def tchO (N : List Nd) (s : Sh) (c k hi : Int) : List Nat := if okOp c then tchd N s c k hi else []
theorem stch_any (t : Int) (a : Option Addr) (cap : Nat) (N : List Nd) (c k hi v : Int) (w : World) (hN : Ns w a cap N) (hsm : Small N) (s : Sh) (h : Tr N s t) :
    Calls Try.prog 16 #[trv t a cap N, opv c k hi v] w (LvW w (tchO N s c k hi)) := by
  by_cases hc : 1 ≤ c ∧ c ≤ 6
  · have ho : okOp c := ⟨hc.1, by have := hc.2; omega⟩
    have e : tchO N s c k hi = tchd N s c k hi := by unfold tchO; rw [if_pos ho]
    rw [e]
    have h4 : ∀ {d : Int}, d ≤ 4 → tchd N s d k hi = [(dn N k s).i] := fun hd => by unfold tchd; rw [if_pos hd]
    have h6 : ∀ {d : Int}, d = 5 ∨ d = 6 → tchd N s d k hi = if hi < k then [] else tch N s k hi := fun hd => by
      unfold tchd; rw [if_neg (by omega)]
      by_cases hk : hi < k
      · rw [if_pos hk, if_neg (by omega)]
      · rw [if_neg hk, if_pos (by omega)]
    have hh : c = 1 ∨ c = 2 ∨ c = 3 ∨ c = 4 ∨ c = 5 ∨ c = 6 := by omega
    rcases hh with rfl | rfl | rfl | rfl | rfl | rfl
    · rw [h4 (by decide)]; exact stch_1 t a cap N k hi v w hN hsm s h
    · rw [h4 (by decide)]; exact stch_2 t a cap N k hi v w hN hsm s h
    · rw [h4 (by decide)]; exact stch_3 t a cap N k hi v w hN hsm s h
    · rw [h4 (by decide)]; exact stch_4 t a cap N k hi v w hN hsm s h
    · rw [h6 (.inl rfl)]
      by_cases hk : hi < k
      · rw [if_pos hk]; exact stch_5w t a cap N k hi v w hN hsm s h hk
      · rw [if_neg hk]; exact stch_5y t a cap N k hi v w hN hsm s h hk
    · rw [h6 (.inr rfl)]
      by_cases hk : hi < k
      · rw [if_pos hk]; exact stch_6w t a cap N k hi v w hN hsm s h hk
      · rw [if_neg hk]; exact stch_6y t a cap N k hi v w hN hsm s h hk
  · have e : tchO N s c k hi = [] := by
      unfold tchO
      by_cases ho : okOp c
      · rw [if_pos ho]; unfold tchd; unfold okOp at ho; rw [if_neg (by omega), if_neg (by omega)]
      · rw [if_neg ho]
    rw [e]
    exact stch_off t a cap N c k hi v w hN hsm s h hc
end Go.Proofs.Ytijepfabkalcoaa

