/- solo.pressed: the plain tree after an operation has pressed upon its leaves; it writes on the tree, which is its caller's own. Conditions: room for two nodes more, not too many pairs. -/
import Derived.Test.YtijepfabkalcoaaSlT
import Derived.Test.YtijepfabkalcoaaSlB
import Derived.Test.YtijepfabkalcoaaStH
import Derived.Test.YtijepfabkalcoaaLfG
namespace Go.Proofs.Ytijepfabkalcoaa
open Go.RowKit
set_option linter.all false

/-- A tree's nodes, in memory in which none of Z lies. -/
def NsQ (Z : Nat → Prop) (W : World) (ao : Option Addr) (cp : Nat) (Q : List Nd) : Prop := ∃ M : List RN, NRow W Z (.slice ao Q.length cp) M ∧ M.map (fun m => m.n) = Q
theorem NsO.toQ {B : Nat} {Z : Nat → Prop} {W : World} {ao : Option Addr} {cp : Nat} {Q : List Nd} (h : NsO B W ao cp Q) (hZ : ∀ j, j < W.heap.size → Z j → j < B) : NsQ Z W ao cp Q := by
  obtain ⟨M, h1, h2⟩ := h
  exact ⟨M, h1.sub (fun k hk hz => hZ k hk hz), h2⟩
theorem NsQ.ns {Z : Nat → Prop} {W : World} {ao : Option Addr} {cp : Nat} {Q : List Nd} (h : NsQ Z W ao cp Q) : Ns W ao cp Q := by
  obtain ⟨M, h1, rfl⟩ := h
  exact h1.ns.2
theorem NsQ.sub {Z Z' : Nat → Prop} {W : World} {ao : Option Addr} {cp : Nat} {Q : List Nd} (h : NsQ Z W ao cp Q) (hZ : ∀ j, j < W.heap.size → Z' j → Z j) : NsQ Z' W ao cp Q := by
  obtain ⟨M, h1, h2⟩ := h
  exact ⟨M, h1.sub (fun k hk hz => hZ k hk hz), h2⟩
theorem NsQ.keep {Z : Nat → Prop} {W W' : World} {ao : Option Addr} {cp : Nat} {Q : List Nd} (h : NsQ Z W ao cp Q) (hb : Below W.heap.size W W') : NsQ Z W' ao cp Q := by
  obtain ⟨M, h1, h2⟩ := h
  exact ⟨M, h1.keep hb, h2⟩
theorem NsQ.only {Z S : Nat → Prop} {W W' : World} {ao : Option Addr} {cp : Nat} {Q : List Nd} (h : NsQ Z W ao cp Q) (o : Only S W W') (hS : ∀ k, S k → Z k) : NsQ Z W' ao cp Q := by
  obtain ⟨M, h1, h2⟩ := h
  exact ⟨M, h1.only o hS, h2⟩
/-- What pressed tells: a tree in which none of Z lies; only its caller's nodes are written. -/
def PsIs (w : World) (Z : Nat → Prop) (a : Option Addr) (Q : List Nd) (e : Ending) (w' : World) : Prop :=
  ∃ ao cp, e = .returned (.agg #[.int .i64 0, .slice ao Q.length cp]) ∧ NsQ Z w' ao cp Q ∧ (∀ g o sp, ao = some ⟨g, o, sp⟩ → (∃ o' sp', a = some ⟨g, o', sp'⟩) ∨ w.heap.size ≤ g) ∧ Only (fun j => ∃ o sp, a = some ⟨j, o, sp⟩) w w'
/-- pressed's boxes. -/
structure PB (w : World) (g n cap : Nat) (h l cc u m c k hi v : Int) (W : World) : Prop where
  t : Bk W w.heap.size [.int .i64 0, .slice (some ⟨g, 0, none⟩) n cap]
  p : Bk W (w.heap.size + 1) [.int .i64 h, .int .i64 l, .int .i64 cc, .int .i64 u, .int .i64 m]
  o : Bk W (w.heap.size + 1 + 1) [.int .i64 c, .int .i64 k, .int .i64 hi, .int .i64 v]
  r : Bk W (w.heap.size + 1 + 1 + 1) [.int .i64 0, .slice none 0 0]
  b : Only (fun j => j = g) w W
section
variable {w W W' : World} {g n cap : Nat} {h l cc u m c k hi v : Int}
theorem PB.keep (H : PB w g n cap h l cc u m c k hi v W) (hb : Below W.heap.size W W') : PB w g n cap h l cc u m c k hi v W' :=
  ⟨H.t.keep hb, H.p.keep hb, H.o.keep hb, H.r.keep hb, H.b.trans (Only.ofBelow (S := fun j => j = g) hb) (fun i hi _ => hi)⟩
theorem PB.only (H : PB w g n cap h l cc u m c k hi v W) (hg : g < w.heap.size) (ho : Only (fun j => j = g) W W') : PB w g n cap h l cc u m c k hi v W' :=
  ⟨H.t.only ho (fun e => by have : w.heap.size = g := e; omega), H.p.only ho (fun e => by have : w.heap.size + 1 = g := e; omega), H.o.only ho (fun e => by have : w.heap.size + 1 + 1 = g := e; omega), H.r.only ho (fun e => by have : w.heap.size + 1 + 1 + 1 = g := e; omega), H.b.trans ho (fun i hi _ => hi)⟩
theorem PB.new (w : World) (g n cap : Nat) (h l cc u m c k hi v : Int) :
    PB w g n cap h l cc u m c k hi v ((((w.alloc (.cells #[.int .i64 0, .slice (some ⟨g, 0, none⟩) n cap] 24)).alloc (.cells #[.int .i64 h, .int .i64 l, .int .i64 cc, .int .i64 u, .int .i64 m] 26)).alloc (.cells #[.int .i64 c, .int .i64 k, .int .i64 hi, .int .i64 v] 28)).alloc (.cells #[.int .i64 0, .slice none 0 0] 24)) := by
  refine ⟨(((Bk.new w _ _).past _).past _).past _, ?_, ?_, ?_, ((((Only.refl _ w).alloc _).alloc _).alloc _).alloc _⟩
  · have h := ((Bk.new (w.alloc (.cells #[.int .i64 0, .slice (some ⟨g, 0, none⟩) n cap] 24)) #[.int .i64 h, .int .i64 l, .int .i64 cc, .int .i64 u, .int .i64 m] 26).past (.cells #[.int .i64 c, .int .i64 k, .int .i64 hi, .int .i64 v] 28)).past (.cells #[.int .i64 0, .slice none 0 0] 24)
    simp only [World.size_alloc] at h; exact h
  · have h := (Bk.new ((w.alloc (.cells #[.int .i64 0, .slice (some ⟨g, 0, none⟩) n cap] 24)).alloc (.cells #[.int .i64 h, .int .i64 l, .int .i64 cc, .int .i64 u, .int .i64 m] 26)) #[.int .i64 c, .int .i64 k, .int .i64 hi, .int .i64 v] 28).past (.cells #[.int .i64 0, .slice none 0 0] 24)
    simp only [World.size_alloc] at h; exact h
  · have h := Bk.new (((w.alloc (.cells #[.int .i64 0, .slice (some ⟨g, 0, none⟩) n cap] 24)).alloc (.cells #[.int .i64 h, .int .i64 l, .int .i64 cc, .int .i64 u, .int .i64 m] 26)).alloc (.cells #[.int .i64 c, .int .i64 k, .int .i64 hi, .int .i64 v] 28)) #[.int .i64 0, .slice none 0 0] 24
    simp only [World.size_alloc] at h; exact h
end
theorem wj_one {j n : Nat} (h : j < n) (hn : n ≤ 2000) : wrap64 ((j : Int) + 1) = (j : Int) + 1 := by unfold wrap64; omega
theorem wm_one {j n : Nat} (h : j < n) : n - (intOf (Value.int IntKind.i64 ((j : Int) + 1))).toNat < n - (intOf (Value.int IntKind.i64 (j : Int))).toNat := by simp only [intOf]; omega
theorem wm_two {j n : Nat} (h : j < n) (hw : wrap64 ((j : Int) + 1) = (j : Int) + 1) : n - (intOf (Value.int IntKind.i64 (wrap64 ((j : Int) + 1)))).toNat < n - (intOf (Value.int IntKind.i64 (j : Int))).toNat := by rw [hw]; exact wm_one h
theorem PB.two {w W : World} {g n cap : Nat} {h l cc u m c k hi v : Int} (H : PB w g n cap h l cc u m c k hi v W) {q : Nat} (hq : w.heap.size + 1 + 1 + 1 < q) (x y : Value) : PB w g n cap h l cc u m c k hi v ((W.setCell ⟨q, 0, none⟩ x).setCell ⟨q, 1, none⟩ y) :=
  ⟨(H.t.other _ (by omega)).other _ (by omega), (H.p.other _ (by omega)).other _ (by omega), (H.o.other _ (by omega)).other _ (by omega), (H.r.other _ (by omega)).other _ (by omega), (H.b.setCell (p := ⟨q, 0, none⟩) (.inr (by show _ ≤ q; omega)) x).setCell (p := ⟨q, 1, none⟩) (.inr (by show _ ≤ q; omega)) y⟩
theorem PB.conj {w W : World} {g n cap : Nat} {h l cc u m c k hi v : Int} (H : PB w g n cap h l cc u m c k hi v W) :
    W.cell? ⟨w.heap.size, 0, none⟩ = some (.int .i64 0) ∧ W.cell? ⟨w.heap.size, 1, none⟩ = some (.slice (some ⟨g, 0, none⟩) n cap) ∧ W.cell? ⟨w.heap.size + 1, 0, none⟩ = some (.int .i64 h) ∧ W.cell? ⟨w.heap.size + 1, 1, none⟩ = some (.int .i64 l) ∧ W.cell? ⟨w.heap.size + 1, 2, none⟩ = some (.int .i64 cc) ∧ W.cell? ⟨w.heap.size + 1, 3, none⟩ = some (.int .i64 u) ∧ W.cell? ⟨w.heap.size + 1, 4, none⟩ = some (.int .i64 m) ∧ PB w g n cap h l cc u m c k hi v W :=
  ⟨H.t.at_ 0 _ rfl, H.t.at_ 1 _ rfl, H.p.at_ 0 _ rfl, H.p.at_ 1 _ rfl, H.p.at_ 2 _ rfl, H.p.at_ 3 _ rfl, H.p.at_ 4 _ rfl, H⟩
theorem stat_bd {N : List Nd} {s : Sh} {t : Int} (h : Tr N s t) {i : Nat} (hi : i ∈ s.lvs) : -1000000 ≤ (nd N i).s ∧ (nd N i).s ≤ 1000000 := by
  obtain ⟨n, lo', hi', hn, ho, -⟩ := hangs_leaf h.hg i (lvs_pre _ _ hi)
  have hf := lf_false h.hg hi hn
  rw [nd_of hn]
  exact ⟨(ho hf).2.2.2.1, (ho hf).2.2.2.2.1⟩
theorem NsO.newer {B : Nat} {W : World} {cp g o : Nat} {sp : Option Nat} {Q : List Nd} (h : NsO B W (some ⟨g, o, sp⟩) cp Q) : B ≤ g := by
  obtain ⟨M, h1, _⟩ := h
  have := h1.own g rfl
  omega
/-- A tree's nodes lie in one block. -/
theorem NsQ.at0 {Z : Nat → Prop} {W : World} {a : Option Addr} {cp : Nat} {Q : List Nd} (h : NsQ Z W a cp Q) (h0 : 0 < Q.length) : ∃ g, a = some ⟨g, 0, Option.none⟩ ∧ g < W.heap.size := by
  obtain ⟨M, h1, rfl⟩ := h
  obtain ⟨m, hm⟩ : ∃ m, M[0]? = some m := ⟨_, List.getElem?_eq_getElem (by simpa using h0)⟩
  obtain ⟨g, rfl, _, hna, _⟩ := h1.at hm
  exact ⟨g, rfl, World.block_lt_of_cell? W _ hna.c0⟩
set_option maxRecDepth 100000 in
set_option maxHeartbeats 12800000 in
theorem ps_stay (g cap : Nat) (Z : Nat → Prop) (N : List Nd) (h l cc u m h' l' c' u' m' c k hi v : Int) (s : Sh) (w : World) (hN : NsQ Z w (some ⟨g, 0, none⟩) cap N) (hB : ∀ j, Z j → j < w.heap.size) (hg : g < w.heap.size) (hsm : Small N) (hT : Tr N s 0) (hu : ¬ (1 ≤ c ∧ c ≤ 3)) (hf : (tchO N s c k hi).length < 2) :
    Calls Try.prog 76 #[trv 0 (some ⟨g, 0, none⟩) cap N, polv h l cc u m, opv c k hi v] w (PsIs w Z (some ⟨g, 0, none⟩) N) := by
  have hl1 := hsm.1
  have ct := fun (W : World) (hb : Below w.heap.size w W) => stch_any 0 (some ⟨g, 0, none⟩) cap N c k hi v W (hN.ns.keep hb) hsm s hT
  unfold LvW at ct
  have K1 := Lib.hid (PB.new w g N.length cap h l cc u m c k hi v)
  have HB1 := Lib.hid (show Below w.heap.size w ((((w.alloc (.cells #[.int .i64 0, .slice (some ⟨g, 0, none⟩) N.length cap] 24)).alloc (.cells #[.int .i64 h, .int .i64 l, .int .i64 cc, .int .i64 u, .int .i64 m] 26)).alloc (.cells #[.int .i64 c, .int .i64 k, .int .i64 hi, .int .i64 v] 28)).alloc (.cells #[.int .i64 0, .slice none 0 0] 24)) from bel1 (bel1 (bel1 (al1 _) _) _) _)
  have cu := fun W => lupd_any c k hi v W false (decide_eq_false hu)
  have HN := Lib.hid hN
  generalize tchO N s c k hi = ls at ct hf
  have hf' : decide ((ls.length : Int) < 2) = true := decide_eq_true (by omega)
  unfold polv opv trv at *
  clear hN hsm hT hu
  go_enter Try.func76, Try.ntmps76
  go_wp2_with (first
    | (go_at_call 16; ((with_reducible refine (ct _ HB1.out).mono ?_); clear ct; rintro e w2 ⟨al, cl, rfl, hr, hav, hb2⟩; have K2 := Lib.hid (K1.out.keep hb2); have HB2 := Lib.hid (bel2 HB1.out hb2); have HR := Lib.hid hr; have HAV := Lib.hid hav; clear hr hav hb2; have t0 := K2.out.t.at_ 0 _ rfl; have t1 := K2.out.t.at_ 1 _ rfl; have p0 := K2.out.p.at_ 0 _ rfl; have p1 := K2.out.p.at_ 1 _ rfl; have p2 := K2.out.p.at_ 2 _ rfl; have p3 := K2.out.p.at_ 3 _ rfl; have p4 := K2.out.p.at_ 4 _ rfl; have q0 := K2.out.o.at_ 0 _ rfl; have q1 := K2.out.o.at_ 1 _ rfl; have q2 := K2.out.o.at_ 2 _ rfl; have q3 := K2.out.o.at_ 3 _ rfl))
    | (go_at_call 96; ((with_reducible refine (cu _).mono ?_); clear cu; rintro e w3 ⟨rfl, hb3⟩; have K3 := Lib.hid (K2.out.keep hb3); have HB3 := Lib.hid (bel2 HB2.out hb3); have HR3 := Lib.hid (HR.out.below hb3); clear hb3; clear t0 t1 p0 p1 p2 p3 p4 q0 q1 q2 q3; have t0 := K3.out.t.at_ 0 _ rfl; have t1 := K3.out.t.at_ 1 _ rfl; have p0 := K3.out.p.at_ 0 _ rfl; have p1 := K3.out.p.at_ 1 _ rfl; have p2 := K3.out.p.at_ 2 _ rfl; have p3 := K3.out.p.at_ 3 _ rfl; have p4 := K3.out.p.at_ 4 _ rfl; have q0 := K3.out.o.at_ 0 _ rfl; have q1 := K3.out.o.at_ 1 _ rfl; have q2 := K3.out.o.at_ 2 _ rfl; have q3 := K3.out.o.at_ 3 _ rfl)); have r0 := K3.out.r.at_ 0 _ rfl; have r1 := K3.out.r.at_ 1 _ rfl; have f0 := K3.out.r.fr 0; have f1 := K3.out.r.fr 1
    | fail)
  have hb : Below w.heap.size w ((w3.setCell ⟨w.heap.size + 1 + 1 + 1, 0, none⟩ (.int .i64 0)).setCell ⟨w.heap.size + 1 + 1 + 1, 1, none⟩ (.slice (some ⟨g, 0, none⟩) N.length cap)) := ret_below HB3.out (by omega) _ _
  refine bodyPost_ret (v := .agg #[.int .i64 0, .slice (some ⟨g, 0, none⟩) N.length cap]) (by simp [results, Try.results76, go_sem, r0, r1]) rfl ⟨some ⟨g, 0, none⟩, cap, rfl, HN.out.keep hb, fun g' o sp e => .inl ⟨o, sp, e⟩, Only.ofBelow hb⟩
set_option maxRecDepth 100000 in
set_option maxHeartbeats 12800000 in
theorem ps_upd (g cap : Nat) (Z : Nat → Prop) (N : List Nd) (h l cc u m h' l' c' u' m' c k hi v : Int) (s : Sh) (w : World) (hN : NsQ Z w (some ⟨g, 0, none⟩) cap N) (hB : ∀ j, Z j → j < w.heap.size) (hg : g < w.heap.size) (hsm : Small N) (hT : Tr N s 0) (hu : 1 ≤ c ∧ c ≤ 3) (hle : N.length + 2 ≤ 2000) (hP : (allP N s.lvs).length ≤ 1099999) (hC : Cl h l cc u m h' l' c' u' m') (d : Int) (Q : List Nd) (hQ : BndO (N.set (dn N k s).i ⟨false, 0, 0, 0, doP (nd N (dn N k s).i).p c k v, nx c' u' m' (nd N (dn N k s).i).s 2⟩) 0 ((dn N k s).i : Int) (dc h' l') d Q) :
    Calls Try.prog 76 #[trv 0 (some ⟨g, 0, none⟩) cap N, polv h l cc u m, opv c k hi v] w (PsIs w Z (some ⟨g, 0, none⟩) Q) := by
  have hl1 := hsm.1
  have ct := fun (W : World) (hb : Below w.heap.size w W) => stch_any 0 (some ⟨g, 0, none⟩) cap N c k hi v W (hN.ns.keep hb) hsm s hT
  unfold LvW at ct
  have K1 := Lib.hid (PB.new w g N.length cap h l cc u m c k hi v)
  have HB1 := Lib.hid (show Below w.heap.size w ((((w.alloc (.cells #[.int .i64 0, .slice (some ⟨g, 0, none⟩) N.length cap] 24)).alloc (.cells #[.int .i64 h, .int .i64 l, .int .i64 cc, .int .i64 u, .int .i64 m] 26)).alloc (.cells #[.int .i64 c, .int .i64 k, .int .i64 hi, .int .i64 v] 28)).alloc (.cells #[.int .i64 0, .slice none 0 0] 24)) from bel1 (bel1 (bel1 (al1 _) _) _) _)
  have cu := fun W => lupd_any c k hi v W true (decide_eq_true hu)
  have hls : tchO N s c k hi = [(dn N k s).i] := by unfold tchO tchd; rw [if_pos ⟨hu.1, by have := hu.2; omega⟩, if_pos (by have := hu.2; omega)]
  rw [hls] at ct
  have hil := dn_lvs N k s
  have hix := hT.hg.lt _ (lvs_pre _ _ hil)
  obtain ⟨g1, g2, g3⟩ := tr_update hT (k := k) (v := v) (st := nx c' u' m' (nd N (dn N k s).i).s 2) ⟨hu.1, by have := hu.2; omega⟩ (nx_bd _ _ _ _ _).1 (nx_bd _ _ _ _ _).2
  have hsp : Srt (nd N (dn N k s).i).p := by
    obtain ⟨X, Y, e, _, _⟩ := dn_parts (k := k) hT.hg hT.nd
    have := (allP_srt hT.hg).1
    rw [e] at this
    exact (srt_mid this).2.1
  have hpl : (nd N (dn N k s).i).p.length ≤ 1099999 := Nat.le_trans (allP_mem_len hil) hP
  have cd := fun (pa : Option Addr) (pc : Nat) (W : World) (hw : Prs W pa pc (nd N (dn N k s).i).p) => ldo_any pa pc (nd N (dn N k s).i).p c k hi v W hw (by omega)
  unfold DoIs at cd
  have HN := Lib.hid hN
  have HT := Lib.hid hT
  have ls1 : ([(dn N k s).i] : List Nat).length = 1 := rfl
  rw [ls1] at ct
  obtain ⟨M, hM, hMn⟩ := hN
  obtain ⟨mi, hmi⟩ : ∃ mi, M[(dn N k s).i]? = some mi := ⟨_, List.getElem?_eq_getElem (by have := congrArg List.length hMn; simp at this; omega)⟩
  have hmn : mi.n = nd N (dn N k s).i := by
    have hh : ∀ (x : Nat) (m : RN), M[x]? = some m → m.n = nd N x := fun x m h => by rw [← hMn]; symm; apply nd_of; rw [List.getElem?_map, h]; rfl
    exact hh _ _ hmi
  have HM := Lib.hid (And.intro hM hMn)
  have HMI := Lib.hid (And.intro hmi hmn)
  have HX := Lib.hid (And.intro hil (And.intro g1 hsp))
  generalize hi' : (dn N k s).i = i at *
  have HBs := Lib.hid hB
  clear hM hMn hmi hmn hil g1 g2 g3 hT hsp hB
  have HG := Lib.hid hg
  unfold polv opv trv at *
  go_enter Try.func76, Try.ntmps76
  go_upto_region 4 with (first
    | (go_at_call 16; ((with_reducible refine (ct _ HB1.out).mono ?_); clear ct; rintro e w2 ⟨al, cl, rfl, hr, hav, hb2⟩; have K2 := Lib.hid (K1.out.keep hb2); have HB2 := Lib.hid (bel2 HB1.out hb2); have HR := Lib.hid hr; have HAV := Lib.hid hav; clear hr hav hb2; have t0 := K2.out.t.at_ 0 _ rfl; have t1 := K2.out.t.at_ 1 _ rfl; have p0 := K2.out.p.at_ 0 _ rfl; have p1 := K2.out.p.at_ 1 _ rfl; have p2 := K2.out.p.at_ 2 _ rfl; have p3 := K2.out.p.at_ 3 _ rfl; have p4 := K2.out.p.at_ 4 _ rfl; have q0 := K2.out.o.at_ 0 _ rfl; have q1 := K2.out.o.at_ 1 _ rfl; have q2 := K2.out.o.at_ 2 _ rfl; have q3 := K2.out.o.at_ 3 _ rfl))
    | (go_at_call 96; ((with_reducible refine (cu _).mono ?_); clear cu; rintro e w3 ⟨rfl, hb3⟩; have K3 := Lib.hid (K2.out.keep hb3); have HB3 := Lib.hid (bel2 HB2.out hb3); have HR3 := Lib.hid (HR.out.below hb3); clear hb3; clear t0 t1 p0 p1 p2 p3 p4 q0 q1 q2 q3; have t0 := K3.out.t.at_ 0 _ rfl; have t1 := K3.out.t.at_ 1 _ rfl; have p0 := K3.out.p.at_ 0 _ rfl; have p1 := K3.out.p.at_ 1 _ rfl; have p2 := K3.out.p.at_ 2 _ rfl; have p3 := K3.out.p.at_ 3 _ rfl; have p4 := K3.out.p.at_ 4 _ rfl; have q0 := K3.out.o.at_ 0 _ rfl; have q1 := K3.out.o.at_ 1 _ rfl; have q2 := K3.out.o.at_ 2 _ rfl; have q3 := K3.out.o.at_ 3 _ rfl))
    | fail)
  obtain ⟨ba, oa, rfl, ca⟩ := HR3.out.2.2 0 _ rfl
  simp only [Nat.add_zero] at ca
  have hba := HAV.out ba oa none rfl
  have hi0 : (0 : Int) ≤ (i : Int) := by omega
  have hi1 : (i : Int) < (N.length : Int) := by omega
  clear hba
  go_region
  go_upto_region 5 with (fail)
  have HB4 := Lib.hid (show Below w.heap.size w w3.drew from HB3.out.drew)
  have K4 := Lib.hid (K3.out.keep ((Below.refl w3.heap.size w3).drew))
  have HL4 := Lib.hid (HR3.out.below ((Below.refl w3.heap.size w3).drew))
  clear t0 t1 p0 p1 p2 p3 p4 q0 q1 q2 q3 ca
  clear HB3 K3 HR3 HR
  generalize w3.drew = W4 at *
  have HBA := Lib.hid (show w.heap.size ≤ ba from Nat.le_trans HB1.out.size (HAV.out ba oa none rfl))
  have R4 := Lib.hid (HM.out.1.keep HB4.out)
  obtain ⟨⟨mr, mk, ma, mb, p, ms⟩, pa, pc⟩ := mi
  have hmn := HMI.out.2
  dsimp only at hmn
  rw [← hmn] at cd hpl hQ
  have HMN := Lib.hid hmn
  clear hmn
  obtain ⟨g', eg, -, hna, hfz⟩ := R4.out.at HMI.out.1
  cases eg
  have x4 := hna.c4
  have f4 := hfz (i * 6 + 4)
  have HPS := Lib.hid hna.ps
  have hps := hna.ps
  dsimp only at x4 cd hps hpl
  clear hna hfz
  have cdo := fun W hw => cd pa pc W hw
  clear cd
  generalize doA p c k hi = D at cdo
  obtain ⟨RR, hRR⟩ : ∃ RR, RR = doP p c k v := ⟨_, rfl⟩
  rw [← hRR] at cdo
  have HRR := Lib.hid hRR
  clear hRR
  have hO : O4 (w.heap.size + 1 + 1) c k hi v W4 := ⟨K4.out.o.at_ 0 _ rfl, K4.out.o.at_ 1 _ rfl, K4.out.o.at_ 2 _ rfl, K4.out.o.at_ 3 _ rfl⟩
  obtain ⟨p0, p1, p2, p3⟩ := hO
  have hO : O4 (w.heap.size + 1 + 1) c k hi v W4 := ⟨p0, p1, p2, p3⟩
  have hng : w.heap.size + 1 + 1 ≠ g := by omega
  refine wp_region_held_drew (S := (fun W => O4 (w.heap.size + 1 + 1) c k hi v W)) (by kernel_rfl) (by first | exact hO | exact ⟨p0, p1, p2, p3⟩) (fun hHeld => ?_)
  refine tk 0 ?_ rfl (by kernel_rfl) (fun _ _ _ h => h) ⟨by rfl, ?_⟩ hHeld ?_; rotate_left
  · intro wS hSw; (obtain ⟨s0, s1, s2, s3⟩ := hSw); go_simp; try with_reducible rfl
  refine tk 1 ?_ rfl (by kernel_rfl) (fun _ _ _ h => h) ⟨by rfl, ?_⟩ hHeld ?_; rotate_left
  · intro wS hSw; (obtain ⟨s0, s1, s2, s3⟩ := hSw); go_simp; try with_reducible rfl
  refine tk 2 ?_ rfl (by kernel_rfl) (fun _ _ _ h => h) ⟨by rfl, ?_⟩ hHeld ?_; rotate_left
  · intro wS hSw; (obtain ⟨s0, s1, s2, s3⟩ := hSw); go_simp; try with_reducible rfl
  refine tk 3 ?_ rfl (by kernel_rfl) (fun _ _ _ h => h) ⟨by rfl, ?_⟩ hHeld ?_; rotate_left
  · intro wS hSw; (obtain ⟨s0, s1, s2, s3⟩ := hSw); go_simp; try with_reducible rfl
  refine tk 5 ?_ rfl (by kernel_rfl) (fun _ _ _ h => h) ⟨by rfl, ?_⟩ hHeld ?_; rotate_left
  · intro wS hSw; (obtain ⟨s0, s1, s2, s3⟩ := hSw); go_simp; try with_reducible rfl
  try simp only [List.getElem_toArray, List.getElem_cons_succ, List.getElem_cons_zero, Act.put, List.setIfInBounds_toArray, List.set_cons_zero, List.set_cons_succ]
  refine wpAnyH_ready (rs := [4]) (by kernel_rfl) (by simp) ?_
  refine AllReadyH.cons rfl (fun K hK => ?_) AllReadyH.nil
  go_simp
  refine hK.out _ _ ?_ (fun hNext => ?_)
  · exact hHeld
  clear hK K hHeld
  have hHeld := hNext
  clear hNext
  try simp only [List.getElem_toArray, List.getElem_cons_succ, List.getElem_cons_zero, Act.put, List.setIfInBounds_toArray, List.set_cons_zero, List.set_cons_succ]
  refine wpAnyH_ready (rs := [6]) (by kernel_rfl) (by simp) ?_
  refine AllReadyH.cons rfl (fun K hK => ?_) AllReadyH.nil
  go_simp
  (go_at_call 97; ((with_reducible refine (cdo _ (hps.below ((Below.refl _ _).drew))).mono ?_); rintro e w6 ⟨a6, cp6, aa, ca6, rfl, hR6, -, hb6⟩; have hb6' : Below W4.heap.size W4 w6 := ((Below.refl _ _).drew).trans hb6; have HR6 := Lib.hid hR6; have HB6 := Lib.hid hb6'; have x6 := cell_keep x4 hb6'; have f6 : w6.frozen? ⟨g, i * 6 + 4, none⟩ = false := frozen_keep f4 (World.block_lt_of_cell? _ _ x4) hb6'; clear hR6 hb6 hb6'))
  refine hK.out _ _ ?_ (fun hNext => ?_)
  · exact hO.keep HB6.out
  clear hK K hHeld
  have hHeld := hNext
  clear hNext
  try simp only [List.getElem_toArray, List.getElem_cons_succ, List.getElem_cons_zero, Act.put, List.setIfInBounds_toArray, List.set_cons_zero, List.set_cons_succ]
  refine tk 7 ?_ rfl (by kernel_rfl) (fun _ _ _ h => h) ⟨by rfl, ?_⟩ hHeld ?_; rotate_left
  · intro wS hSw; (obtain ⟨s0, s1, s2, s3⟩ := hSw); go_simp; try with_reducible rfl
  refine tk 8 ?_ rfl (by kernel_rfl) (fun _ _ _ h => h) ⟨by rfl, ?_⟩ hHeld ?_; rotate_left
  · intro wS hSw; (obtain ⟨s0, s1, s2, s3⟩ := hSw); go_simp; try with_reducible rfl
  refine tk 9 ?_ rfl (by kernel_rfl) (fun _ _ _ h => h) ⟨by rfl, ?_⟩ hHeld ?_; rotate_left
  · intro wS hSw; (obtain ⟨s0, s1, s2, s3⟩ := hSw); go_simp; try with_reducible rfl
  refine tk 10 ?_ rfl (by kernel_rfl) (fun _ _ _ h => h) ⟨by rfl, ?_⟩ hHeld ?_; rotate_left
  · intro wS hSw; (obtain ⟨s0, s1, s2, s3⟩ := hSw); go_simp; try with_reducible rfl
  refine tk 11 ?_ rfl (by kernel_rfl) (fun _ _ _ h => h) ⟨by rfl, ?_⟩ hHeld ?_; rotate_left
  · intro wS hSw; (obtain ⟨s0, s1, s2, s3⟩ := hSw); go_simp; try with_reducible rfl
  try simp only [List.getElem_toArray, List.getElem_cons_succ, List.getElem_cons_zero, Act.put, List.setIfInBounds_toArray, List.set_cons_zero, List.set_cons_succ]
  refine wpAnyH_ready (rs := [12]) (by kernel_rfl) (by simp) ?_
  refine AllReadyH.cons rfl (fun K hK => ?_) AllReadyH.nil
  go_simp
  refine hK.out _ _ ?_ (fun hNext => ?_)
  · exact (hO.keep HB6.out).set hng _
  clear hK K hHeld
  have hHeld := hNext
  clear hNext
  try simp only [List.getElem_toArray, List.getElem_cons_succ, List.getElem_cons_zero, Act.put, List.setIfInBounds_toArray, List.set_cons_zero, List.set_cons_succ]
  refine wpAnyH_done (by kernel_rfl) ?_ _
  have k7 : (w6.setCell ⟨g, i * 6 + 4, none⟩ (.slice a6 RR.length cp6)).cell? ⟨g, i * 6 + 4, none⟩ = some (.slice a6 RR.length cp6) := setS x6
  have N7 := Lib.hid ((R4.out.keep HB6.out).cell HMI.out.1 ⟨⟨mr, mk, ma, mb, RR, ms⟩, a6, cp6⟩ 4 (.slice a6 RR.length cp6) (by decide) rfl (HR6.out.prs rfl) (fun _ b o sp e => ⟨fun hh => by
      have h0 := HBs.out b hh
      have h1 := HR6.out.av b (by have e2 : a6 = some ⟨b, o, sp⟩ := e; rw [e2]; rfl)
      have h2 := HB4.out.size
      have h3 : ¬ b < W4.drew.heap.size := h1
      have h4 : W4.drew.heap.size = W4.heap.size := rfl
      omega, fun e' => by
      have h1 := HR6.out.av b (by have e2 : a6 = some ⟨b, o, sp⟩ := e; rw [e2]; rfl)
      have h2 := HB4.out.size
      have h3 : ¬ b < W4.drew.heap.size := h1
      have h4 : W4.drew.heap.size = W4.heap.size := rfl
      have h5 := HG.out
      omega⟩))
  have hO7 : Only (fun j => j = g) w6 (w6.setCell ⟨g, i * 6 + 4, none⟩ (.slice a6 RR.length cp6)) := only_one g _ _
  have P7 := Lib.hid ((K4.out.keep HB6.out).only HG.out hO7)
  have HL6 := HL4.out.below HB6.out
  obtain ⟨_, _, ea, ca7⟩ := HL6.2.2 0 _ rfl
  cases ea
  have ca8 := hO7.cell ca7 (by show ¬ (ba = g); have := HBA.out; have := HG.out; omega)
  have HL7 := Lib.hid (show RI (w6.setCell ⟨g, i * 6 + 4, none⟩ (.slice a6 RR.length cp6)) (some ⟨ba, oa, none⟩) cl (preI [i]) from ⟨HL6.1, HL6.2.1, fun n x hx => by
    obtain ⟨b', o', e', c'⟩ := HL6.2.2 n x hx
    cases e'
    exact ⟨ba, oa, rfl, hO7.cell c' (by show ¬ (ba = g); have := HBA.out; have := HG.out; omega)⟩⟩)
  have hN1 : (M.set i ⟨⟨mr, mk, ma, mb, RR, ms⟩, a6, cp6⟩).map (fun m => m.n) = N.set i ⟨false, 0, 0, 0, RR, ms⟩ := by
    obtain ⟨l1, l2, l3, l4⟩ := lf_plain HT.out.hg i HX.out.1
    rw [← HMN.out] at l1 l2 l3 l4
    rw [List.map_set, HM.out.2]
    dsimp only at l1 l2 l3 l4
    rw [l1, l2, l3, l4]
  have R7 := Lib.hid (And.intro N7.out hN1)
  generalize M.set i ⟨⟨mr, mk, ma, mb, RR, ms⟩, a6, cp6⟩ = M1 at *
  have ms1 := stat_bd HT.out HX.out.1
  rw [← HMN.out] at ms1
  have hTR1 : Tr (N.set i ⟨false, 0, 0, 0, RR, ms⟩) s 0 := by
    have h1 := (tr_update HT.out (k := k) (v := v) (st := ms) ⟨hu.1, by have := hu.2; omega⟩ ms1.1 ms1.2).1
    rw [hi', ← HMN.out] at h1
    rw [HRR.out]
    exact h1
  have TR1 := Lib.hid hTR1
  have hlm : ∀ x ∈ ([i] : List Nat), x ∈ s.lvs := fun x hx => by simp at hx; rw [hx]; exact HX.out.1
  have HLM := Lib.hid hlm
  have hN2 : stN (fun x => nx c' u' m' x 2) [i] (N.set i ⟨false, 0, 0, 0, RR, ms⟩) = N.set i ⟨false, 0, 0, 0, RR, nx c' u' m' ms 2⟩ := by
    show (N.set i _).set i _ = _
    rw [nd_set (by omega), List.set_set]
  have HN2 := Lib.hid hN2
  rw [← HRR.out] at hQ
  rw [← hN2] at hQ
  have HQ := Lib.hid hQ
  have hNl : (N.set i ⟨false, 0, 0, 0, RR, ms⟩).length = N.length := List.length_set ..
  have HNl := Lib.hid hNl
  have hAl : (allP (N.set i ⟨false, 0, 0, 0, RR, ms⟩) s.lvs).length ≤ 1100000 := by
    have h1 := (tr_update HT.out (k := k) (v := v) (st := ms) ⟨hu.1, by have := hu.2; omega⟩ ms1.1 ms1.2).2.1
    rw [hi', ← HMN.out, ← HRR.out] at h1
    rw [h1]
    have := doP_len0 (allP_srt HT.out.hg).1 c k v
    omega
  have HAL := Lib.hid hAl
  have LS : ([i] : List Nat).length = 1 := rfl
  clear hN1 ms1 hTR1 hlm hN2 hQ hNl hAl N7 k7 x4 f4 x6 f6 hO p0 p1 p2 p3 hng hHeld ca7 ca8 hps HL6 HM HMI R4 HX HMN
  generalize N.set i ⟨false, 0, 0, 0, RR, ms⟩ = N1 at *
  generalize (World.setCell w6 _ _ : World) = W7 at *
  obtain ⟨ls, hls⟩ : ∃ ls, ls = [i] := ⟨_, rfl⟩
  rw [← hls] at HL7 HLM HQ LS
  have L0 := Lib.hid (show ls[0]? = some i by rw [hls]; rfl)
  clear hls HN2
  go_wp2_with (fail)
  go_loopw [45] (fun z wr => ∃ (j : Nat) (M : List RN), j ≤ 1 ∧ z = .int .i64 j ∧ M.map (fun m => m.n) = stN (fun x => nx c' u' m' x 2) (ls.take j) N1 ∧ NRow wr Z (.slice (some ⟨g, 0, none⟩) N.length cap) M ∧ Only (fun x => x = g) W7 wr) (fun z _ => 1 - (intOf z).toNat)
  case atStart => exact ⟨0, M1, Nat.zero_le _, rfl, by simp only [List.take_zero, stN]; exact R7.out.2, R7.out.1, Only.refl _ _⟩
  case round =>
    obtain ⟨j, M, hj, rfl, hMn, hR, hO⟩ := hrel
    have HH := Lib.hid (And.intro hMn (And.intro hR hO))
    have P8 := Lib.hid (P7.out.only HG.out hO)
    clear hMn hR hO
    by_cases hlt : j < 1
    · obtain ⟨x, hx⟩ : ∃ x, ls[j]? = some x := ⟨_, List.getElem?_eq_getElem (by omega)⟩
      have hxm := HLM.out x (List.mem_of_getElem? hx)
      obtain ⟨b', o', e', cx0⟩ := HL7.out.2.2 j (x : Int) (preI_get hx)
      cases e'
      have cx := HH.out.2.2.cell cx0 (by show ¬ (ba = g); have := HBA.out; have := HG.out; omega)
      obtain ⟨st1, st2, st3⟩ := tr_stats (f := (fun x => nx c' u' m' x 2)) (fun x => nx_bd _ _ _ _ _) TR1.out (l := ls.take j) (fun y hy => HLM.out y (List.mem_of_mem_take hy))
      have hxl := st1.hg.lt x (lvs_pre _ _ hxm)
      rw [st3, HNl.out] at hxl
      have hNM : M.length = N.length := by have h1 := congrArg List.length HH.out.1; rw [List.length_map, st3, HNl.out] at h1; exact h1
      obtain ⟨mx, hmx⟩ : ∃ mx, M[x]? = some mx := ⟨_, List.getElem?_eq_getElem (by omega)⟩
      have hmn : nd (stN (fun x => nx c' u' m' x 2) (ls.take j) N1) x = mx.n := by rw [← HH.out.1]; apply nd_of; rw [List.getElem?_map, hmx]; rfl
      have lfp := lf_plain st1.hg x hxm
      rw [hmn] at lfp
      have HMX := Lib.hid (And.intro hmx (And.intro hmn lfp))
      have HX := Lib.hid hx
      have HLT := Lib.hid hlt
      have HWJ := Lib.hid (wj_one hlt (by decide))
      obtain ⟨g', eg, -, hna, hfz⟩ := HH.out.2.1.at hmx
      cases eg
      have y5 := hna.c5
      have f5 := hfz (x * 6 + 5)
      have hps := Lib.hid hna.ps
      have cnx := fun n W => next_to h l cc u m h' l' c' u' m' n 2 hC W
      have hx0 : (0 : Int) ≤ (x : Int) := by omega
      have hx1 : (x : Int) < (N.length : Int) := by omega
      clear hx hxm cx0 st1 st2 st3 hmx hmn lfp hna hfz
      go_upto_region 11 with (fail)
      clear cx
      refine wp_region_held_drew (S := (fun W => W.cell? ⟨w.heap.size, 0, none⟩ = some (.int .i64 0) ∧ W.cell? ⟨w.heap.size, 1, none⟩ = some (.slice (some ⟨g, 0, none⟩) N.length cap) ∧ W.cell? ⟨w.heap.size + 1, 0, none⟩ = some (.int .i64 h) ∧ W.cell? ⟨w.heap.size + 1, 1, none⟩ = some (.int .i64 l) ∧ W.cell? ⟨w.heap.size + 1, 2, none⟩ = some (.int .i64 cc) ∧ W.cell? ⟨w.heap.size + 1, 3, none⟩ = some (.int .i64 u) ∧ W.cell? ⟨w.heap.size + 1, 4, none⟩ = some (.int .i64 m) ∧ PB w g N.length cap h l cc u m c k hi v W)) (by kernel_rfl) (by first | exact P8.out.conj | exact (P8.out.keep (Below.refl _ _).drew).conj) (fun hHeld => ?_)
      refine tk 0 ?_ rfl (by kernel_rfl) (fun _ _ _ h => h) ⟨by rfl, ?_⟩ hHeld ?_; rotate_left
      · intro wS hSw; (try dsimp only at hSw); (try go_split_ands); go_simp; try with_reducible rfl
      refine tk 1 ?_ rfl (by kernel_rfl) (fun _ _ _ h => h) ⟨by rfl, ?_⟩ hHeld ?_; rotate_left
      · intro wS hSw; (try dsimp only at hSw); (try go_split_ands); go_simp; try with_reducible rfl
      refine tk 2 ?_ rfl (by kernel_rfl) (fun _ _ _ h => h) ⟨by rfl, ?_⟩ hHeld ?_; rotate_left
      · intro wS hSw; (try dsimp only at hSw); (try go_split_ands); go_simp; try with_reducible rfl
      refine tk 3 ?_ rfl (by kernel_rfl) (fun _ _ _ h => h) ⟨by rfl, ?_⟩ hHeld ?_; rotate_left
      · intro wS hSw; (try dsimp only at hSw); (try go_split_ands); go_simp; try with_reducible rfl
      refine tk 4 ?_ rfl (by kernel_rfl) (fun _ _ _ h => h) ⟨by rfl, ?_⟩ hHeld ?_; rotate_left
      · intro wS hSw; (try dsimp only at hSw); (try go_split_ands); go_simp; try with_reducible rfl
      refine tk 5 ?_ rfl (by kernel_rfl) (fun _ _ _ h => h) ⟨by rfl, ?_⟩ hHeld ?_; rotate_left
      · intro wS hSw; (try dsimp only at hSw); (try go_split_ands); go_simp; try with_reducible rfl
      refine tk 6 ?_ rfl (by kernel_rfl) (fun _ _ _ h => h) ⟨by rfl, ?_⟩ hHeld ?_; rotate_left
      · intro wS hSw; (try dsimp only at hSw); (try go_split_ands); go_simp; try with_reducible rfl
      refine tk 7 ?_ rfl (by kernel_rfl) (fun _ _ _ h => h) ⟨by rfl, ?_⟩ hHeld ?_; rotate_left
      · intro wS hSw; (try dsimp only at hSw); (try go_split_ands); go_simp; try with_reducible rfl
      refine tk 8 ?_ rfl (by kernel_rfl) (fun _ _ _ h => h) ⟨by rfl, ?_⟩ hHeld ?_; rotate_left
      · intro wS hSw; (try dsimp only at hSw); (try go_split_ands); go_simp; try with_reducible rfl
      refine tk 10 ?_ rfl (by kernel_rfl) (fun _ _ _ h => h) ⟨by rfl, ?_⟩ hHeld ?_; rotate_left
      · intro wS hSw; (try dsimp only at hSw); (try go_split_ands); go_simp; try with_reducible rfl
      try simp only [List.getElem_toArray, List.getElem_cons_succ, List.getElem_cons_zero, Act.put, List.setIfInBounds_toArray, List.set_cons_zero, List.set_cons_succ]
      refine wpAnyH_ready (rs := [9]) (by kernel_rfl) (by simp) ?_
      refine AllReadyH.cons rfl (fun K hK => ?_) AllReadyH.nil
      go_simp
      refine hK.out _ _ ?_ (fun hNext => ?_)
      · exact hHeld
      clear hK K hHeld
      have hHeld := hNext
      clear hNext
      try simp only [List.getElem_toArray, List.getElem_cons_succ, List.getElem_cons_zero, Act.put, List.setIfInBounds_toArray, List.set_cons_zero, List.set_cons_succ]
      refine wpAnyH_ready (rs := [11]) (by kernel_rfl) (by simp) ?_
      refine AllReadyH.cons rfl (fun K hK => ?_) AllReadyH.nil
      go_simp
      (go_at_call 98; ((with_reducible refine (cnx _ _).mono ?_); rintro e X ⟨rfl, hbX⟩))
      refine hK.out _ _ ?_ (fun hNext => ?_)
      · exact (hHeld.2.2.2.2.2.2.2.keep hbX).conj
      have P9 := Lib.hid (hHeld.2.2.2.2.2.2.2.keep hbX)
      have hb9 : Below wr.heap.size wr X := (Below.refl wr.heap.size wr).drew.trans hbX
      have y6 := kc hb9 y5
      have HB9 := Lib.hid hb9
      have f6 : X.frozen? ⟨g, x * 6 + 5, none⟩ = false := (hb9.frozen (p := ⟨g, x * 6 + 5, none⟩) (World.block_lt_of_cell? _ _ y5)).trans f5
      clear hbX hb9
      clear hK K hHeld
      have hHeld := hNext
      clear hNext
      try simp only [List.getElem_toArray, List.getElem_cons_succ, List.getElem_cons_zero, Act.put, List.setIfInBounds_toArray, List.set_cons_zero, List.set_cons_succ]
      refine tk 12 ?_ rfl (by kernel_rfl) (fun _ _ _ h => h) ⟨by rfl, ?_⟩ hHeld ?_; rotate_left
      · intro wS hSw; (try dsimp only at hSw); (try go_split_ands); go_simp; try with_reducible rfl
      refine tk 13 ?_ rfl (by kernel_rfl) (fun _ _ _ h => h) ⟨by rfl, ?_⟩ hHeld ?_; rotate_left
      · intro wS hSw; (try dsimp only at hSw); (try go_split_ands); go_simp; try with_reducible rfl
      try simp only [List.getElem_toArray, List.getElem_cons_succ, List.getElem_cons_zero, Act.put, List.setIfInBounds_toArray, List.set_cons_zero, List.set_cons_succ]
      refine wpAnyH_ready (rs := [14]) (by kernel_rfl) (by simp) ?_
      refine AllReadyH.cons rfl (fun K hK => ?_) AllReadyH.nil
      go_simp
      refine hK.out _ _ ?_ (fun hNext => ?_)
      · exact (P9.out.only HG.out (only_one g _ _)).conj
      clear hK K hHeld
      have hHeld := hNext
      clear hNext
      try simp only [List.getElem_toArray, List.getElem_cons_succ, List.getElem_cons_zero, Act.put, List.setIfInBounds_toArray, List.set_cons_zero, List.set_cons_succ]
      refine wpAnyH_done (by kernel_rfl) ?_ _
      clear hHeld
      go_wp2_with (fail)
      go_roundw
      case rel =>
        obtain ⟨l1, l2, l3, l4⟩ := HMX.out.2.2
        refine ⟨j + 1, M.set x ⟨⟨mx.n.r, mx.n.k, mx.n.a, mx.n.b, mx.n.p, nx c' u' m' mx.n.s 2⟩, mx.a, mx.c⟩, (by have := HLT.out; omega), (by first | go_num | (rw [HWJ.out]; go_num)), ?_, ?_, ?_⟩
        · rw [take_snoc HX.out, stN_snoc, HMX.out.2.1, List.map_set, HH.out.1, l1, l2, l3, l4]
        · refine (HH.out.2.1.keep HB9.out).cell HMX.out.1 ⟨⟨mx.n.r, mx.n.k, mx.n.a, mx.n.b, mx.n.p, nx c' u' m' mx.n.s 2⟩, mx.a, mx.c⟩ 5 _ (by decide) rfl (hps.out.below HB9.out) (fun hp b o sp e => ?_)
          have h1 := (HH.out.2.1.prs mx (List.mem_of_getElem? HMX.out.1)).2 hp b o sp e
          exact ⟨h1.1, fun e' => h1.2 (by rw [← e']; rfl)⟩
        · exact (HH.out.2.2.trans (Only.ofBelow (S := fun x => x = g) HB9.out) (fun i hi _ => hi)).setCell (S := fun x => x = g) (p := ⟨g, x * 6 + 5, none⟩) (.inl rfl) _
      case measure => first | with_reducible exact wm_one HLT.out | with_reducible exact wm_two HLT.out HWJ.out
    · obtain rfl : j = 1 := by omega
      have hfin : M.map (fun m => m.n) = stN (fun x => nx c' u' m' x 2) ls N1 := by rw [HH.out.1]; congr 1; rw [List.take_of_length_le (by omega)]
      have P9 := Lib.hid P8.out
      obtain ⟨b', o', e', cx0⟩ := HL7.out.2.2 0 (i : Int) (preI_get L0.out)
      cases e'
      have cx := HH.out.2.2.cell cx0 (by show ¬ (ba = g); have := HBA.out; have := HG.out; omega)
      simp only [Nat.add_zero] at cx
      have NS9 := Lib.hid (show NsQ Z wr (some ⟨g, 0, none⟩) cap (stN (fun x => nx c' u' m' x 2) ls N1) from ⟨M, by rw [← hfin, List.length_map]; have h1 := HH.out.2.1; obtain ⟨_, _, e1, _⟩ := h1.form; simp only [Value.slice.injEq] at e1; rw [e1.2.1] at h1; exact h1, hfin⟩)
      obtain ⟨st1, st2, st3⟩ := tr_stats (f := (fun x => nx c' u' m' x 2)) (fun x => nx_bd _ _ _ _ _) TR1.out (l := ls) (fun y hy => HLM.out y hy)
      have hlen9 : (stN (fun x => nx c' u' m' x 2) ls N1).length = N.length := st3.trans HNl.out
      have hsm9 : Small (stN (fun x => nx c' u' m' x 2) ls N1) := tr_small st1 (by rw [st2]; exact HAL.out) (by rw [hlen9]; exact hl1)
      have cb := fun (W : World) (hb : Below wr.heap.size wr W) => bend_own 0 (some ⟨g, 0, none⟩) cap (stN (fun x => nx c' u' m' x 2) ls N1) h l cc u m h' l' c' u' m' (i : Int) W (NS9.out.ns.keep hb) hsm9 (by rw [hlen9]; exact hle) (fun s2 h2 => by rw [h2.uniq st1, st2]; exact HAL.out) hC d Q HQ.out
      unfold BnO trv at cb
      rw [hlen9] at cb
      clear hlen9 hsm9 st1 st2 st3 hfin
      go_upto_region 13 with (fail)
      obtain ⟨t0, t1, p0, p1, p2, p3, p4, -⟩ := P9.out.conj
      refine wp_region_held_drew (S := (fun W => W.cell? ⟨ba, oa, none⟩ = some (.int .i64 (i : Int)) ∧ W.cell? ⟨w.heap.size, 0, none⟩ = some (.int .i64 0) ∧ W.cell? ⟨w.heap.size, 1, none⟩ = some (.slice (some ⟨g, 0, none⟩) N.length cap) ∧ W.cell? ⟨w.heap.size + 1, 0, none⟩ = some (.int .i64 h) ∧ W.cell? ⟨w.heap.size + 1, 1, none⟩ = some (.int .i64 l) ∧ W.cell? ⟨w.heap.size + 1, 2, none⟩ = some (.int .i64 cc) ∧ W.cell? ⟨w.heap.size + 1, 3, none⟩ = some (.int .i64 u) ∧ W.cell? ⟨w.heap.size + 1, 4, none⟩ = some (.int .i64 m) ∧ PB w g N.length cap h l cc u m c k hi v W)) (by kernel_rfl) (by first | exact ⟨cx, P9.out.conj⟩ | exact ⟨cx, (P9.out.keep (Below.refl _ _).drew).conj⟩) (fun hHeld => ?_)
      refine tk 0 ?_ rfl (by kernel_rfl) (fun _ _ _ h => h) ⟨by rfl, ?_⟩ hHeld ?_; rotate_left
      · intro wS hSw; (try dsimp only at hSw); (try go_split_ands); go_simp; try with_reducible rfl
      refine tk 1 ?_ rfl (by kernel_rfl) (fun _ _ _ h => h) ⟨by rfl, ?_⟩ hHeld ?_; rotate_left
      · intro wS hSw; (try dsimp only at hSw); (try go_split_ands); go_simp; try with_reducible rfl
      refine tk 2 ?_ rfl (by kernel_rfl) (fun _ _ _ h => h) ⟨by rfl, ?_⟩ hHeld ?_; rotate_left
      · intro wS hSw; (try dsimp only at hSw); (try go_split_ands); go_simp; try with_reducible rfl
      refine tk 3 ?_ rfl (by kernel_rfl) (fun _ _ _ h => h) ⟨by rfl, ?_⟩ hHeld ?_; rotate_left
      · intro wS hSw; (try dsimp only at hSw); (try go_split_ands); go_simp; try with_reducible rfl
      refine tk 4 ?_ rfl (by kernel_rfl) (fun _ _ _ h => h) ⟨by rfl, ?_⟩ hHeld ?_; rotate_left
      · intro wS hSw; (try dsimp only at hSw); (try go_split_ands); go_simp; try with_reducible rfl
      try simp only [List.getElem_toArray, List.getElem_cons_succ, List.getElem_cons_zero, Act.put, List.setIfInBounds_toArray, List.set_cons_zero, List.set_cons_succ]
      refine wpAnyH_ready (rs := [5, 9]) (by kernel_rfl) (by simp) ?_
      refine AllReadyH.cons rfl (fun K hK => ?_) (AllReadyH.cons rfl (fun K hK => ?_) AllReadyH.nil)
      · skip
        go_simp
        (go_at_call 99; ((with_reducible refine (cb _ (Below.refl wr.heap.size wr).drew).mono ?_); rintro e X ⟨ao, cp, rfl, hn, hbX⟩))
        refine hK.out _ _ ?_ (fun hNext => ?_)
        · exact ⟨kc hbX hHeld.1, (hHeld.2.2.2.2.2.2.2.2.keep hbX).conj⟩
        have NX := Lib.hid hn
        have PX := Lib.hid (hHeld.2.2.2.2.2.2.2.2.keep hbX)
        have cX := kc hbX hHeld.1
        clear hn hbX
        clear hK K hHeld
        have hHeld := hNext
        clear hNext
        try simp only [List.getElem_toArray, List.getElem_cons_succ, List.getElem_cons_zero, Act.put, List.setIfInBounds_toArray, List.set_cons_zero, List.set_cons_succ]
        refine tk 6 ?_ rfl (by kernel_rfl) (fun _ _ _ h => h) ⟨by rfl, ?_⟩ hHeld ?_; rotate_left
        · intro wS hSw; (try dsimp only at hSw); (try go_split_ands); go_simp; try with_reducible rfl
        refine tk 7 ?_ rfl (by kernel_rfl) (fun _ _ _ h => h) ⟨by rfl, ?_⟩ hHeld ?_; rotate_left
        · intro wS hSw; (try dsimp only at hSw); (try go_split_ands); go_simp; try with_reducible rfl
        refine tk 8 ?_ rfl (by kernel_rfl) (fun _ _ _ h => h) ⟨by rfl, ?_⟩ hHeld ?_; rotate_left
        · intro wS hSw; (try dsimp only at hSw); (try go_split_ands); go_simp; try with_reducible rfl
        try simp only [List.getElem_toArray, List.getElem_cons_succ, List.getElem_cons_zero, Act.put, List.setIfInBounds_toArray, List.set_cons_zero, List.set_cons_succ]
        refine wpAnyH_ready (rs := [9]) (by kernel_rfl) (by simp) ?_
        refine AllReadyH.cons rfl (fun K hK => ?_) AllReadyH.nil
        go_simp
        have BX := Lib.hid (show Bk (X.alloc (.cells #[.int .i64 0, .slice none 0 0] 24)) X.heap.size [.int .i64 0, .slice none 0 0] from Bk.new X #[.int .i64 0, .slice none 0 0] 24)
        refine hK.out _ _ ?_ (fun hNext => ?_)
        · exact ⟨kc (al1 _) hHeld.1, (hHeld.2.2.2.2.2.2.2.2.keep (al1 (.cells #[.int .i64 0, .slice none 0 0] 24))).conj⟩
        clear hK K hHeld
        have hHeld := hNext
        clear hNext
        try simp only [List.getElem_toArray, List.getElem_cons_succ, List.getElem_cons_zero, Act.put, List.setIfInBounds_toArray, List.set_cons_zero, List.set_cons_succ]
        have z0 := BX.out.at_ 0 _ rfl
        have z1 := BX.out.at_ 1 _ rfl
        have fz := BX.out.fr
        refine wpAnyH_ready (rs := [10]) (by kernel_rfl) (by simp) ?_
        refine AllReadyH.cons rfl (fun K hK => ?_) AllReadyH.nil
        go_simp
        refine hK.out _ _ ?_ (fun hNext => ?_)
        · exact ⟨kc (al1 _) cX, (PX.out.keep (al1 _)).conj⟩
        have PF := Lib.hid (PX.out.keep (al1 (.cells #[.int .i64 0, .slice ao Q.length cp] 24)))
        have NF := Lib.hid (show NsO wr.heap.size _ ao cp Q from NX.out.keep (al1 (.cells #[.int .i64 0, .slice ao Q.length cp] 24)))
        have BF := Lib.hid (Bk.new X #[.int .i64 0, .slice ao Q.length cp] 24)
        clear z0 z1 fz
        clear hK K hHeld
        have hHeld := hNext
        clear hNext
        try simp only [List.getElem_toArray, List.getElem_cons_succ, List.getElem_cons_zero, Act.put, List.setIfInBounds_toArray, List.set_cons_zero, List.set_cons_succ]
        refine tk 11 ?_ rfl (by kernel_rfl) (fun _ _ _ h => h) ⟨by rfl, ?_⟩ hHeld ?_; rotate_left
        · intro wS hSw; (try dsimp only at hSw); (try go_split_ands); go_simp; try with_reducible rfl
        try simp only [List.getElem_toArray, List.getElem_cons_succ, List.getElem_cons_zero, Act.put, List.setIfInBounds_toArray, List.set_cons_zero, List.set_cons_succ]
        refine wpAnyH_done (by kernel_rfl) ?_ _
        clear hHeld cX
        generalize (X.alloc (.cells #[.int .i64 0, .slice ao Q.length cp] 24)) = WF at *
        have z0 := BF.out.at_ 0 _ rfl
        have z1 := BF.out.at_ 1 _ rfl
        have r0 := PF.out.r.at_ 0 _ rfl
        have r1 := PF.out.r.at_ 1 _ rfl
        have f0 := PF.out.r.fr 0
        have f1 := PF.out.r.fr 1
        go_wp2_with (fail)
        have hq2 : w.heap.size + 1 + 1 + 1 < wr.heap.size := P9.out.r.lt
        refine bodyPost_ret (v := .agg #[.int .i64 0, .slice ao Q.length cp]) (by simp [results, Try.results76, go_sem, r0, r1]) rfl ⟨ao, cp, rfl, (NF.out.ret (q := w.heap.size + 1 + 1 + 1) hq2 _ _).toQ (fun j _ hj => by have := HBs.out j hj; omega), (fun g' o sp e => .inr (by subst e; have := NF.out.newer; omega)), ?_⟩
        exact ((PF.out.b.setCell (p := ⟨w.heap.size + 1 + 1 + 1, 0, none⟩) (.inr (by show _ ≤ w.heap.size + 1 + 1 + 1; omega)) _).setCell (p := ⟨w.heap.size + 1 + 1 + 1, 1, none⟩) (.inr (by show _ ≤ w.heap.size + 1 + 1 + 1; omega)) _).mono (fun i hi _ => ⟨0, none, by have e : i = g := hi; rw [e]⟩)
      · skip
        go_simp
        have BX := Lib.hid (show Bk (wr.alloc (.cells #[.int .i64 0, .slice none 0 0] 24)).drew wr.heap.size [.int .i64 0, .slice none 0 0] from (Bk.new wr #[.int .i64 0, .slice none 0 0] 24).drew)
        have hba1 : Below wr.heap.size wr (wr.alloc (.cells #[.int .i64 0, .slice none 0 0] 24)).drew := (al1 (.cells #[.int .i64 0, .slice none 0 0] 24)).drew
        refine hK.out _ _ ?_ (fun hNext => ?_)
        · exact ⟨kc (al1 _) hHeld.1, (hHeld.2.2.2.2.2.2.2.2.keep (al1 (.cells #[.int .i64 0, .slice none 0 0] 24))).conj⟩
        clear hK K hHeld
        have hHeld := hNext
        clear hNext
        try simp only [List.getElem_toArray, List.getElem_cons_succ, List.getElem_cons_zero, Act.put, List.setIfInBounds_toArray, List.set_cons_zero, List.set_cons_succ]
        refine wpAnyH_ready (rs := [5]) (by kernel_rfl) (by simp) ?_
        refine AllReadyH.cons rfl (fun K hK => ?_) AllReadyH.nil
        go_simp
        (go_at_call 99; ((with_reducible refine (cb _ hba1).mono ?_); rintro e X ⟨ao, cp, rfl, hn, hbX⟩))
        refine hK.out _ _ ?_ (fun hNext => ?_)
        · exact ⟨kc hbX hHeld.1, (hHeld.2.2.2.2.2.2.2.2.keep hbX).conj⟩
        have NX := Lib.hid hn
        have PX := Lib.hid (hHeld.2.2.2.2.2.2.2.2.keep hbX)
        have cX := kc hbX hHeld.1
        have BX2 := Lib.hid (BX.out.keep hbX)
        clear hn hbX
        clear hK K hHeld
        have hHeld := hNext
        clear hNext
        try simp only [List.getElem_toArray, List.getElem_cons_succ, List.getElem_cons_zero, Act.put, List.setIfInBounds_toArray, List.set_cons_zero, List.set_cons_succ]
        refine tk 6 ?_ rfl (by kernel_rfl) (fun _ _ _ h => h) ⟨by rfl, ?_⟩ hHeld ?_; rotate_left
        · intro wS hSw; (try dsimp only at hSw); (try go_split_ands); go_simp; try with_reducible rfl
        refine tk 7 ?_ rfl (by kernel_rfl) (fun _ _ _ h => h) ⟨by rfl, ?_⟩ hHeld ?_; rotate_left
        · intro wS hSw; (try dsimp only at hSw); (try go_split_ands); go_simp; try with_reducible rfl
        refine tk 8 ?_ rfl (by kernel_rfl) (fun _ _ _ h => h) ⟨by rfl, ?_⟩ hHeld ?_; rotate_left
        · intro wS hSw; (try dsimp only at hSw); (try go_split_ands); go_simp; try with_reducible rfl
        try simp only [List.getElem_toArray, List.getElem_cons_succ, List.getElem_cons_zero, Act.put, List.setIfInBounds_toArray, List.set_cons_zero, List.set_cons_succ]
        have z0 := BX2.out.at_ 0 _ rfl
        have z1 := BX2.out.at_ 1 _ rfl
        have fz := BX2.out.fr
        refine wpAnyH_ready (rs := [10]) (by kernel_rfl) (by simp) ?_
        refine AllReadyH.cons rfl (fun K hK => ?_) AllReadyH.nil
        go_simp
        have hq : w.heap.size + 1 + 1 + 1 < wr.heap.size := P9.out.r.lt
        have hbq : wr.heap.size ≠ ba := Nat.ne_of_gt (World.block_lt_of_cell? _ _ cx)
        refine hK.out _ _ ?_ (fun hNext => ?_)
        · exact ⟨setO (setO cX (.inl hbq)) (.inl hbq), (PX.out.two hq _ _).conj⟩
        have PF := Lib.hid (PX.out.two hq (.int .i64 0) (.slice ao Q.length cp))
        have NF := Lib.hid (show NsO wr.heap.size _ ao cp Q from (NX.out.ret (q := wr.heap.size) (by simp) (.int .i64 0) (.slice ao Q.length cp)).low (by simp))
        have BF := Lib.hid (show Bk _ wr.heap.size [.int .i64 0, .slice ao Q.length cp] from (BX2.out.set 0 (.int .i64 0) (by simp)).set 1 (.slice ao Q.length cp) (by simp))
        clear z0 z1 fz
        clear hK K hHeld
        have hHeld := hNext
        clear hNext
        try simp only [List.getElem_toArray, List.getElem_cons_succ, List.getElem_cons_zero, Act.put, List.setIfInBounds_toArray, List.set_cons_zero, List.set_cons_succ]
        refine tk 11 ?_ rfl (by kernel_rfl) (fun _ _ _ h => h) ⟨by rfl, ?_⟩ hHeld ?_; rotate_left
        · intro wS hSw; (try dsimp only at hSw); (try go_split_ands); go_simp; try with_reducible rfl
        try simp only [List.getElem_toArray, List.getElem_cons_succ, List.getElem_cons_zero, Act.put, List.setIfInBounds_toArray, List.set_cons_zero, List.set_cons_succ]
        refine wpAnyH_done (by kernel_rfl) ?_ _
        clear hHeld cX
        generalize (World.setCell _ _ _ : World) = WF at *
        have z0 := BF.out.at_ 0 _ rfl
        have z1 := BF.out.at_ 1 _ rfl
        have r0 := PF.out.r.at_ 0 _ rfl
        have r1 := PF.out.r.at_ 1 _ rfl
        have f0 := PF.out.r.fr 0
        have f1 := PF.out.r.fr 1
        go_wp2_with (fail)
        have hq2 : w.heap.size + 1 + 1 + 1 < wr.heap.size := P9.out.r.lt
        refine bodyPost_ret (v := .agg #[.int .i64 0, .slice ao Q.length cp]) (by simp [results, Try.results76, go_sem, r0, r1]) rfl ⟨ao, cp, rfl, (NF.out.ret (q := w.heap.size + 1 + 1 + 1) hq2 _ _).toQ (fun j _ hj => by have := HBs.out j hj; omega), (fun g' o sp e => .inr (by subst e; have := NF.out.newer; omega)), ?_⟩
        exact ((PF.out.b.setCell (p := ⟨w.heap.size + 1 + 1 + 1, 0, none⟩) (.inr (by show _ ≤ w.heap.size + 1 + 1 + 1; omega)) _).setCell (p := ⟨w.heap.size + 1 + 1 + 1, 1, none⟩) (.inr (by show _ ≤ w.heap.size + 1 + 1 + 1; omega)) _).mono (fun i hi _ => ⟨0, none, by have e : i = g := hi; rw [e]⟩)
set_option maxRecDepth 100000 in
set_option maxHeartbeats 12800000 in
theorem ps_rng (g cap : Nat) (Z : Nat → Prop) (N : List Nd) (h l cc u m h' l' c' u' m' c k hi v : Int) (s : Sh) (w : World) (hN : NsQ Z w (some ⟨g, 0, none⟩) cap N) (hB : ∀ j, Z j → j < w.heap.size) (hg : g < w.heap.size) (hsm : Small N) (hT : Tr N s 0) (h5 : c = 5 ∨ c = 6) (hk : k ≤ hi) (hne : (dn N k s).i ≠ (dn N hi s).i) (hle : N.length + 2 ≤ 2000) (hP : (allP N s.lvs).length ≤ 1099999) (hC : Cl h l cc u m h' l' c' u' m') (d : Int) (Q : List Nd) (hQ : BndO (stN (fun x => nx c' u' m' x 3) (tch N s k hi) N) 0 ((dn N k s).i : Int) (dc h' l') d Q) :
    Calls Try.prog 76 #[trv 0 (some ⟨g, 0, none⟩) cap N, polv h l cc u m, opv c k hi v] w (PsIs w Z (some ⟨g, 0, none⟩) Q) := by
  have hl1 := hsm.1
  have ct := fun (W : World) (hb : Below w.heap.size w W) => stch_any 0 (some ⟨g, 0, none⟩) cap N c k hi v W (hN.ns.keep hb) hsm s hT
  unfold LvW at ct
  have K1 := Lib.hid (PB.new w g N.length cap h l cc u m c k hi v)
  have HB1 := Lib.hid (show Below w.heap.size w ((((w.alloc (.cells #[.int .i64 0, .slice (some ⟨g, 0, none⟩) N.length cap] 24)).alloc (.cells #[.int .i64 h, .int .i64 l, .int .i64 cc, .int .i64 u, .int .i64 m] 26)).alloc (.cells #[.int .i64 c, .int .i64 k, .int .i64 hi, .int .i64 v] 28)).alloc (.cells #[.int .i64 0, .slice none 0 0] 24)) from bel1 (bel1 (bel1 (al1 _) _) _) _)
  have cu := fun W => lupd_any c k hi v W false (decide_eq_false (by omega))
  have hls : tchO N s c k hi = tch N s k hi := by unfold tchO tchd; rw [if_pos ⟨by omega, by omega⟩, if_neg (by omega), if_pos ⟨by omega, hk⟩]
  rw [hls] at ct
  obtain ⟨-, hl2, hl0⟩ := tch_two (lvs_nodup hT.nd) hk
  have h2 := hl2 hne
  have hll : (tch N s k hi).length ≤ 2000 := by
    obtain ⟨a1, b1, e1, e2, e3⟩ := dn_mono (N := N) hk s
    rw [tch, tchL_is (lvs_nodup hT.nd) e1 e2 e3, List.length_drop, List.length_take]
    have := lvs_len s
    have := hT.all
    omega
  have HLL := Lib.hid hll
  clear hll
  have L0 := Lib.hid hl0
  have HLM := Lib.hid (show ∀ x ∈ tch N s k hi, x ∈ s.lvs from fun x hx => tchL_mem x hx)
  have HQ := Lib.hid hQ
  have TR1 := Lib.hid hT
  have HAL := Lib.hid (show (allP N s.lvs).length ≤ 1100000 by omega)
  have HBs := Lib.hid hB
  have HG := Lib.hid hg
  have hix := hT.hg.lt _ (lvs_pre _ _ (dn_lvs N k s))
  have hi0 : (0 : Int) ≤ ((dn N k s).i : Int) := by omega
  have hi1 : ((dn N k s).i : Int) < (N.length : Int) := by omega
  obtain ⟨M1, hM, hMn⟩ := hN
  have HM := Lib.hid (And.intro hM hMn)
  clear hl2 hne hl0 hls hQ hM hMn hT hB
  generalize (dn N k s).i = i at *
  generalize tch N s k hi = ls at *
  have hf1 : decide ((ls.length : Int) < 2) = false := decide_eq_false (by omega)
  have hf2 : ¬ ls.length < 2 := by omega
  have hf3 : (0 : Int) < (ls.length : Int) := by omega
  have hf4 : 0 < ls.length := by omega
  unfold polv opv trv at *
  go_enter Try.func76, Try.ntmps76
  go_wp2_with (first
    | (go_at_call 16; ((with_reducible refine (ct _ HB1.out).mono ?_); clear ct; rintro e w2 ⟨al, cl, rfl, hr, hav, hb2⟩; have K2 := Lib.hid (K1.out.keep hb2); have HB2 := Lib.hid (bel2 HB1.out hb2); have HR := Lib.hid hr; have HAV := Lib.hid hav; clear hr hav hb2; have t0 := K2.out.t.at_ 0 _ rfl; have t1 := K2.out.t.at_ 1 _ rfl; have p0 := K2.out.p.at_ 0 _ rfl; have p1 := K2.out.p.at_ 1 _ rfl; have p2 := K2.out.p.at_ 2 _ rfl; have p3 := K2.out.p.at_ 3 _ rfl; have p4 := K2.out.p.at_ 4 _ rfl; have q0 := K2.out.o.at_ 0 _ rfl; have q1 := K2.out.o.at_ 1 _ rfl; have q2 := K2.out.o.at_ 2 _ rfl; have q3 := K2.out.o.at_ 3 _ rfl))
    | (go_at_call 96; ((with_reducible refine (cu _).mono ?_); clear cu; rintro e w3 ⟨rfl, hb3⟩; have K3 := Lib.hid (K2.out.keep hb3); have HB3 := Lib.hid (bel2 HB2.out hb3); have HR3 := Lib.hid (HR.out.below hb3); clear hb3; clear t0 t1 p0 p1 p2 p3 p4 q0 q1 q2 q3; have t0 := K3.out.t.at_ 0 _ rfl; have t1 := K3.out.t.at_ 1 _ rfl; have p0 := K3.out.p.at_ 0 _ rfl; have p1 := K3.out.p.at_ 1 _ rfl; have p2 := K3.out.p.at_ 2 _ rfl; have p3 := K3.out.p.at_ 3 _ rfl; have p4 := K3.out.p.at_ 4 _ rfl; have q0 := K3.out.o.at_ 0 _ rfl; have q1 := K3.out.o.at_ 1 _ rfl; have q2 := K3.out.o.at_ 2 _ rfl; have q3 := K3.out.o.at_ 3 _ rfl))
    | fail)
  obtain ⟨ba, oa, rfl, ca⟩ := HR3.out.2.2 0 _ (preI_get L0.out)
  have HL7 := Lib.hid HR3.out
  have P7 := Lib.hid K3.out
  have HBA := Lib.hid (show w.heap.size ≤ ba from Nat.le_trans HB1.out.size (HAV.out ba oa none rfl))
  have R7 := Lib.hid (And.intro (HM.out.1.keep HB3.out) HM.out.2)
  clear t0 t1 p0 p1 p2 p3 p4 q0 q1 q2 q3 ca
  go_wp2_with (fail)
  go_loopw [45] (fun z wr => ∃ (j : Nat) (M : List RN), j ≤ ls.length ∧ z = .int .i64 j ∧ M.map (fun m => m.n) = stN (fun x => nx c' u' m' x 3) (ls.take j) N ∧ NRow wr Z (.slice (some ⟨g, 0, none⟩) N.length cap) M ∧ Only (fun x => x = g) w3 wr) (fun z _ => ls.length - (intOf z).toNat)
  case atStart => exact ⟨0, M1, Nat.zero_le _, rfl, by simp only [List.take_zero, stN]; exact R7.out.2, R7.out.1, Only.refl _ _⟩
  case round =>
    obtain ⟨j, M, hj, rfl, hMn, hR, hO⟩ := hrel
    have HH := Lib.hid (And.intro hMn (And.intro hR hO))
    have P8 := Lib.hid (P7.out.only HG.out hO)
    clear hMn hR hO
    by_cases hlt : j < ls.length
    · obtain ⟨x, hx⟩ : ∃ x, ls[j]? = some x := ⟨_, List.getElem?_eq_getElem (by omega)⟩
      have hxm := HLM.out x (List.mem_of_getElem? hx)
      obtain ⟨b', o', e', cx0⟩ := HL7.out.2.2 j (x : Int) (preI_get hx)
      cases e'
      have cx := HH.out.2.2.cell cx0 (by show ¬ (ba = g); have := HBA.out; have := HG.out; omega)
      obtain ⟨st1, st2, st3⟩ := tr_stats (f := (fun x => nx c' u' m' x 3)) (fun x => nx_bd _ _ _ _ _) TR1.out (l := ls.take j) (fun y hy => HLM.out y (List.mem_of_mem_take hy))
      have hxl := st1.hg.lt x (lvs_pre _ _ hxm)
      rw [st3] at hxl
      have hNM : M.length = N.length := by have h1 := congrArg List.length HH.out.1; rw [List.length_map, st3] at h1; exact h1
      obtain ⟨mx, hmx⟩ : ∃ mx, M[x]? = some mx := ⟨_, List.getElem?_eq_getElem (by omega)⟩
      have hmn : nd (stN (fun x => nx c' u' m' x 3) (ls.take j) N) x = mx.n := by rw [← HH.out.1]; apply nd_of; rw [List.getElem?_map, hmx]; rfl
      have lfp := lf_plain st1.hg x hxm
      rw [hmn] at lfp
      have HMX := Lib.hid (And.intro hmx (And.intro hmn lfp))
      have HX := Lib.hid hx
      have HLT := Lib.hid hlt
      have HWJ := Lib.hid (wj_one hlt HLL.out)
      obtain ⟨g', eg, -, hna, hfz⟩ := HH.out.2.1.at hmx
      cases eg
      have y5 := hna.c5
      have f5 := hfz (x * 6 + 5)
      have hps := Lib.hid hna.ps
      have cnx := fun n W => next_to h l cc u m h' l' c' u' m' n 3 hC W
      have hx0 : (0 : Int) ≤ (x : Int) := by omega
      have hx1 : (x : Int) < (N.length : Int) := by omega
      clear hx hxm cx0 st1 st2 st3 hmx hmn lfp hna hfz
      go_upto_region 11 with (fail)
      clear cx
      refine wp_region_held_drew (S := (fun W => W.cell? ⟨w.heap.size, 0, none⟩ = some (.int .i64 0) ∧ W.cell? ⟨w.heap.size, 1, none⟩ = some (.slice (some ⟨g, 0, none⟩) N.length cap) ∧ W.cell? ⟨w.heap.size + 1, 0, none⟩ = some (.int .i64 h) ∧ W.cell? ⟨w.heap.size + 1, 1, none⟩ = some (.int .i64 l) ∧ W.cell? ⟨w.heap.size + 1, 2, none⟩ = some (.int .i64 cc) ∧ W.cell? ⟨w.heap.size + 1, 3, none⟩ = some (.int .i64 u) ∧ W.cell? ⟨w.heap.size + 1, 4, none⟩ = some (.int .i64 m) ∧ PB w g N.length cap h l cc u m c k hi v W)) (by kernel_rfl) (by first | exact P8.out.conj | exact (P8.out.keep (Below.refl _ _).drew).conj) (fun hHeld => ?_)
      refine tk 0 ?_ rfl (by kernel_rfl) (fun _ _ _ h => h) ⟨by rfl, ?_⟩ hHeld ?_; rotate_left
      · intro wS hSw; (try dsimp only at hSw); (try go_split_ands); go_simp; try with_reducible rfl
      refine tk 1 ?_ rfl (by kernel_rfl) (fun _ _ _ h => h) ⟨by rfl, ?_⟩ hHeld ?_; rotate_left
      · intro wS hSw; (try dsimp only at hSw); (try go_split_ands); go_simp; try with_reducible rfl
      refine tk 2 ?_ rfl (by kernel_rfl) (fun _ _ _ h => h) ⟨by rfl, ?_⟩ hHeld ?_; rotate_left
      · intro wS hSw; (try dsimp only at hSw); (try go_split_ands); go_simp; try with_reducible rfl
      refine tk 3 ?_ rfl (by kernel_rfl) (fun _ _ _ h => h) ⟨by rfl, ?_⟩ hHeld ?_; rotate_left
      · intro wS hSw; (try dsimp only at hSw); (try go_split_ands); go_simp; try with_reducible rfl
      refine tk 4 ?_ rfl (by kernel_rfl) (fun _ _ _ h => h) ⟨by rfl, ?_⟩ hHeld ?_; rotate_left
      · intro wS hSw; (try dsimp only at hSw); (try go_split_ands); go_simp; try with_reducible rfl
      refine tk 5 ?_ rfl (by kernel_rfl) (fun _ _ _ h => h) ⟨by rfl, ?_⟩ hHeld ?_; rotate_left
      · intro wS hSw; (try dsimp only at hSw); (try go_split_ands); go_simp; try with_reducible rfl
      refine tk 6 ?_ rfl (by kernel_rfl) (fun _ _ _ h => h) ⟨by rfl, ?_⟩ hHeld ?_; rotate_left
      · intro wS hSw; (try dsimp only at hSw); (try go_split_ands); go_simp; try with_reducible rfl
      refine tk 7 ?_ rfl (by kernel_rfl) (fun _ _ _ h => h) ⟨by rfl, ?_⟩ hHeld ?_; rotate_left
      · intro wS hSw; (try dsimp only at hSw); (try go_split_ands); go_simp; try with_reducible rfl
      refine tk 8 ?_ rfl (by kernel_rfl) (fun _ _ _ h => h) ⟨by rfl, ?_⟩ hHeld ?_; rotate_left
      · intro wS hSw; (try dsimp only at hSw); (try go_split_ands); go_simp; try with_reducible rfl
      refine tk 10 ?_ rfl (by kernel_rfl) (fun _ _ _ h => h) ⟨by rfl, ?_⟩ hHeld ?_; rotate_left
      · intro wS hSw; (try dsimp only at hSw); (try go_split_ands); go_simp; try with_reducible rfl
      try simp only [List.getElem_toArray, List.getElem_cons_succ, List.getElem_cons_zero, Act.put, List.setIfInBounds_toArray, List.set_cons_zero, List.set_cons_succ]
      refine wpAnyH_ready (rs := [9]) (by kernel_rfl) (by simp) ?_
      refine AllReadyH.cons rfl (fun K hK => ?_) AllReadyH.nil
      go_simp
      refine hK.out _ _ ?_ (fun hNext => ?_)
      · exact hHeld
      clear hK K hHeld
      have hHeld := hNext
      clear hNext
      try simp only [List.getElem_toArray, List.getElem_cons_succ, List.getElem_cons_zero, Act.put, List.setIfInBounds_toArray, List.set_cons_zero, List.set_cons_succ]
      refine wpAnyH_ready (rs := [11]) (by kernel_rfl) (by simp) ?_
      refine AllReadyH.cons rfl (fun K hK => ?_) AllReadyH.nil
      go_simp
      (go_at_call 98; ((with_reducible refine (cnx _ _).mono ?_); rintro e X ⟨rfl, hbX⟩))
      refine hK.out _ _ ?_ (fun hNext => ?_)
      · exact (hHeld.2.2.2.2.2.2.2.keep hbX).conj
      have P9 := Lib.hid (hHeld.2.2.2.2.2.2.2.keep hbX)
      have hb9 : Below wr.heap.size wr X := (Below.refl wr.heap.size wr).drew.trans hbX
      have y6 := kc hb9 y5
      have HB9 := Lib.hid hb9
      have f6 : X.frozen? ⟨g, x * 6 + 5, none⟩ = false := (hb9.frozen (p := ⟨g, x * 6 + 5, none⟩) (World.block_lt_of_cell? _ _ y5)).trans f5
      clear hbX hb9
      clear hK K hHeld
      have hHeld := hNext
      clear hNext
      try simp only [List.getElem_toArray, List.getElem_cons_succ, List.getElem_cons_zero, Act.put, List.setIfInBounds_toArray, List.set_cons_zero, List.set_cons_succ]
      refine tk 12 ?_ rfl (by kernel_rfl) (fun _ _ _ h => h) ⟨by rfl, ?_⟩ hHeld ?_; rotate_left
      · intro wS hSw; (try dsimp only at hSw); (try go_split_ands); go_simp; try with_reducible rfl
      refine tk 13 ?_ rfl (by kernel_rfl) (fun _ _ _ h => h) ⟨by rfl, ?_⟩ hHeld ?_; rotate_left
      · intro wS hSw; (try dsimp only at hSw); (try go_split_ands); go_simp; try with_reducible rfl
      try simp only [List.getElem_toArray, List.getElem_cons_succ, List.getElem_cons_zero, Act.put, List.setIfInBounds_toArray, List.set_cons_zero, List.set_cons_succ]
      refine wpAnyH_ready (rs := [14]) (by kernel_rfl) (by simp) ?_
      refine AllReadyH.cons rfl (fun K hK => ?_) AllReadyH.nil
      go_simp
      refine hK.out _ _ ?_ (fun hNext => ?_)
      · exact (P9.out.only HG.out (only_one g _ _)).conj
      clear hK K hHeld
      have hHeld := hNext
      clear hNext
      try simp only [List.getElem_toArray, List.getElem_cons_succ, List.getElem_cons_zero, Act.put, List.setIfInBounds_toArray, List.set_cons_zero, List.set_cons_succ]
      refine wpAnyH_done (by kernel_rfl) ?_ _
      clear hHeld
      go_wp2_with (fail)
      go_roundw
      case rel =>
        obtain ⟨l1, l2, l3, l4⟩ := HMX.out.2.2
        refine ⟨j + 1, M.set x ⟨⟨mx.n.r, mx.n.k, mx.n.a, mx.n.b, mx.n.p, nx c' u' m' mx.n.s 3⟩, mx.a, mx.c⟩, (by have := HLT.out; omega), (by first | go_num | (rw [HWJ.out]; go_num)), ?_, ?_, ?_⟩
        · rw [take_snoc HX.out, stN_snoc, HMX.out.2.1, List.map_set, HH.out.1, l1, l2, l3, l4]
        · refine (HH.out.2.1.keep HB9.out).cell HMX.out.1 ⟨⟨mx.n.r, mx.n.k, mx.n.a, mx.n.b, mx.n.p, nx c' u' m' mx.n.s 3⟩, mx.a, mx.c⟩ 5 _ (by decide) rfl (hps.out.below HB9.out) (fun hp b o sp e => ?_)
          have h1 := (HH.out.2.1.prs mx (List.mem_of_getElem? HMX.out.1)).2 hp b o sp e
          exact ⟨h1.1, fun e' => h1.2 (by rw [← e']; rfl)⟩
        · exact (HH.out.2.2.trans (Only.ofBelow (S := fun x => x = g) HB9.out) (fun i hi _ => hi)).setCell (S := fun x => x = g) (p := ⟨g, x * 6 + 5, none⟩) (.inl rfl) _
      case measure => first | with_reducible exact wm_one HLT.out | with_reducible exact wm_two HLT.out HWJ.out
    · obtain rfl : j = ls.length := by omega
      have hfin : M.map (fun m => m.n) = stN (fun x => nx c' u' m' x 3) ls N := by rw [HH.out.1]; congr 1; rw [List.take_of_length_le (by omega)]
      have P9 := Lib.hid P8.out
      obtain ⟨b', o', e', cx0⟩ := HL7.out.2.2 0 (i : Int) (preI_get L0.out)
      cases e'
      have cx := HH.out.2.2.cell cx0 (by show ¬ (ba = g); have := HBA.out; have := HG.out; omega)
      simp only [Nat.add_zero] at cx
      have NS9 := Lib.hid (show NsQ Z wr (some ⟨g, 0, none⟩) cap (stN (fun x => nx c' u' m' x 3) ls N) from ⟨M, by rw [← hfin, List.length_map]; have h1 := HH.out.2.1; obtain ⟨_, _, e1, _⟩ := h1.form; simp only [Value.slice.injEq] at e1; rw [e1.2.1] at h1; exact h1, hfin⟩)
      obtain ⟨st1, st2, st3⟩ := tr_stats (f := (fun x => nx c' u' m' x 3)) (fun x => nx_bd _ _ _ _ _) TR1.out (l := ls) (fun y hy => HLM.out y hy)
      have hlen9 : (stN (fun x => nx c' u' m' x 3) ls N).length = N.length := st3
      have hsm9 : Small (stN (fun x => nx c' u' m' x 3) ls N) := tr_small st1 (by rw [st2]; exact HAL.out) (by rw [hlen9]; exact hl1)
      have cb := fun (W : World) (hb : Below wr.heap.size wr W) => bend_own 0 (some ⟨g, 0, none⟩) cap (stN (fun x => nx c' u' m' x 3) ls N) h l cc u m h' l' c' u' m' (i : Int) W (NS9.out.ns.keep hb) hsm9 (by rw [hlen9]; exact hle) (fun s2 h2 => by rw [h2.uniq st1, st2]; exact HAL.out) hC d Q HQ.out
      unfold BnO trv at cb
      rw [hlen9] at cb
      clear hlen9 hsm9 st1 st2 st3 hfin
      go_upto_region 13 with (fail)
      obtain ⟨t0, t1, p0, p1, p2, p3, p4, -⟩ := P9.out.conj
      refine wp_region_held_drew (S := (fun W => W.cell? ⟨ba, oa, none⟩ = some (.int .i64 (i : Int)) ∧ W.cell? ⟨w.heap.size, 0, none⟩ = some (.int .i64 0) ∧ W.cell? ⟨w.heap.size, 1, none⟩ = some (.slice (some ⟨g, 0, none⟩) N.length cap) ∧ W.cell? ⟨w.heap.size + 1, 0, none⟩ = some (.int .i64 h) ∧ W.cell? ⟨w.heap.size + 1, 1, none⟩ = some (.int .i64 l) ∧ W.cell? ⟨w.heap.size + 1, 2, none⟩ = some (.int .i64 cc) ∧ W.cell? ⟨w.heap.size + 1, 3, none⟩ = some (.int .i64 u) ∧ W.cell? ⟨w.heap.size + 1, 4, none⟩ = some (.int .i64 m) ∧ PB w g N.length cap h l cc u m c k hi v W)) (by kernel_rfl) (by first | exact ⟨cx, P9.out.conj⟩ | exact ⟨cx, (P9.out.keep (Below.refl _ _).drew).conj⟩) (fun hHeld => ?_)
      refine tk 0 ?_ rfl (by kernel_rfl) (fun _ _ _ h => h) ⟨by rfl, ?_⟩ hHeld ?_; rotate_left
      · intro wS hSw; (try dsimp only at hSw); (try go_split_ands); go_simp; try with_reducible rfl
      refine tk 1 ?_ rfl (by kernel_rfl) (fun _ _ _ h => h) ⟨by rfl, ?_⟩ hHeld ?_; rotate_left
      · intro wS hSw; (try dsimp only at hSw); (try go_split_ands); go_simp; try with_reducible rfl
      refine tk 2 ?_ rfl (by kernel_rfl) (fun _ _ _ h => h) ⟨by rfl, ?_⟩ hHeld ?_; rotate_left
      · intro wS hSw; (try dsimp only at hSw); (try go_split_ands); go_simp; try with_reducible rfl
      refine tk 3 ?_ rfl (by kernel_rfl) (fun _ _ _ h => h) ⟨by rfl, ?_⟩ hHeld ?_; rotate_left
      · intro wS hSw; (try dsimp only at hSw); (try go_split_ands); go_simp; try with_reducible rfl
      refine tk 4 ?_ rfl (by kernel_rfl) (fun _ _ _ h => h) ⟨by rfl, ?_⟩ hHeld ?_; rotate_left
      · intro wS hSw; (try dsimp only at hSw); (try go_split_ands); go_simp; try with_reducible rfl
      try simp only [List.getElem_toArray, List.getElem_cons_succ, List.getElem_cons_zero, Act.put, List.setIfInBounds_toArray, List.set_cons_zero, List.set_cons_succ]
      refine wpAnyH_ready (rs := [5, 9]) (by kernel_rfl) (by simp) ?_
      refine AllReadyH.cons rfl (fun K hK => ?_) (AllReadyH.cons rfl (fun K hK => ?_) AllReadyH.nil)
      · skip
        go_simp
        (go_at_call 99; ((with_reducible refine (cb _ (Below.refl wr.heap.size wr).drew).mono ?_); rintro e X ⟨ao, cp, rfl, hn, hbX⟩))
        refine hK.out _ _ ?_ (fun hNext => ?_)
        · exact ⟨kc hbX hHeld.1, (hHeld.2.2.2.2.2.2.2.2.keep hbX).conj⟩
        have NX := Lib.hid hn
        have PX := Lib.hid (hHeld.2.2.2.2.2.2.2.2.keep hbX)
        have cX := kc hbX hHeld.1
        clear hn hbX
        clear hK K hHeld
        have hHeld := hNext
        clear hNext
        try simp only [List.getElem_toArray, List.getElem_cons_succ, List.getElem_cons_zero, Act.put, List.setIfInBounds_toArray, List.set_cons_zero, List.set_cons_succ]
        refine tk 6 ?_ rfl (by kernel_rfl) (fun _ _ _ h => h) ⟨by rfl, ?_⟩ hHeld ?_; rotate_left
        · intro wS hSw; (try dsimp only at hSw); (try go_split_ands); go_simp; try with_reducible rfl
        refine tk 7 ?_ rfl (by kernel_rfl) (fun _ _ _ h => h) ⟨by rfl, ?_⟩ hHeld ?_; rotate_left
        · intro wS hSw; (try dsimp only at hSw); (try go_split_ands); go_simp; try with_reducible rfl
        refine tk 8 ?_ rfl (by kernel_rfl) (fun _ _ _ h => h) ⟨by rfl, ?_⟩ hHeld ?_; rotate_left
        · intro wS hSw; (try dsimp only at hSw); (try go_split_ands); go_simp; try with_reducible rfl
        try simp only [List.getElem_toArray, List.getElem_cons_succ, List.getElem_cons_zero, Act.put, List.setIfInBounds_toArray, List.set_cons_zero, List.set_cons_succ]
        refine wpAnyH_ready (rs := [9]) (by kernel_rfl) (by simp) ?_
        refine AllReadyH.cons rfl (fun K hK => ?_) AllReadyH.nil
        go_simp
        have BX := Lib.hid (show Bk (X.alloc (.cells #[.int .i64 0, .slice none 0 0] 24)) X.heap.size [.int .i64 0, .slice none 0 0] from Bk.new X #[.int .i64 0, .slice none 0 0] 24)
        refine hK.out _ _ ?_ (fun hNext => ?_)
        · exact ⟨kc (al1 _) hHeld.1, (hHeld.2.2.2.2.2.2.2.2.keep (al1 (.cells #[.int .i64 0, .slice none 0 0] 24))).conj⟩
        clear hK K hHeld
        have hHeld := hNext
        clear hNext
        try simp only [List.getElem_toArray, List.getElem_cons_succ, List.getElem_cons_zero, Act.put, List.setIfInBounds_toArray, List.set_cons_zero, List.set_cons_succ]
        have z0 := BX.out.at_ 0 _ rfl
        have z1 := BX.out.at_ 1 _ rfl
        have fz := BX.out.fr
        refine wpAnyH_ready (rs := [10]) (by kernel_rfl) (by simp) ?_
        refine AllReadyH.cons rfl (fun K hK => ?_) AllReadyH.nil
        go_simp
        refine hK.out _ _ ?_ (fun hNext => ?_)
        · exact ⟨kc (al1 _) cX, (PX.out.keep (al1 _)).conj⟩
        have PF := Lib.hid (PX.out.keep (al1 (.cells #[.int .i64 0, .slice ao Q.length cp] 24)))
        have NF := Lib.hid (show NsO wr.heap.size _ ao cp Q from NX.out.keep (al1 (.cells #[.int .i64 0, .slice ao Q.length cp] 24)))
        have BF := Lib.hid (Bk.new X #[.int .i64 0, .slice ao Q.length cp] 24)
        clear z0 z1 fz
        clear hK K hHeld
        have hHeld := hNext
        clear hNext
        try simp only [List.getElem_toArray, List.getElem_cons_succ, List.getElem_cons_zero, Act.put, List.setIfInBounds_toArray, List.set_cons_zero, List.set_cons_succ]
        refine tk 11 ?_ rfl (by kernel_rfl) (fun _ _ _ h => h) ⟨by rfl, ?_⟩ hHeld ?_; rotate_left
        · intro wS hSw; (try dsimp only at hSw); (try go_split_ands); go_simp; try with_reducible rfl
        try simp only [List.getElem_toArray, List.getElem_cons_succ, List.getElem_cons_zero, Act.put, List.setIfInBounds_toArray, List.set_cons_zero, List.set_cons_succ]
        refine wpAnyH_done (by kernel_rfl) ?_ _
        clear hHeld cX
        generalize (X.alloc (.cells #[.int .i64 0, .slice ao Q.length cp] 24)) = WF at *
        have z0 := BF.out.at_ 0 _ rfl
        have z1 := BF.out.at_ 1 _ rfl
        have r0 := PF.out.r.at_ 0 _ rfl
        have r1 := PF.out.r.at_ 1 _ rfl
        have f0 := PF.out.r.fr 0
        have f1 := PF.out.r.fr 1
        go_wp2_with (fail)
        have hq2 : w.heap.size + 1 + 1 + 1 < wr.heap.size := P9.out.r.lt
        refine bodyPost_ret (v := .agg #[.int .i64 0, .slice ao Q.length cp]) (by simp [results, Try.results76, go_sem, r0, r1]) rfl ⟨ao, cp, rfl, (NF.out.ret (q := w.heap.size + 1 + 1 + 1) hq2 _ _).toQ (fun j _ hj => by have := HBs.out j hj; omega), (fun g' o sp e => .inr (by subst e; have := NF.out.newer; omega)), ?_⟩
        exact ((PF.out.b.setCell (p := ⟨w.heap.size + 1 + 1 + 1, 0, none⟩) (.inr (by show _ ≤ w.heap.size + 1 + 1 + 1; omega)) _).setCell (p := ⟨w.heap.size + 1 + 1 + 1, 1, none⟩) (.inr (by show _ ≤ w.heap.size + 1 + 1 + 1; omega)) _).mono (fun i hi _ => ⟨0, none, by have e : i = g := hi; rw [e]⟩)
      · skip
        go_simp
        have BX := Lib.hid (show Bk (wr.alloc (.cells #[.int .i64 0, .slice none 0 0] 24)).drew wr.heap.size [.int .i64 0, .slice none 0 0] from (Bk.new wr #[.int .i64 0, .slice none 0 0] 24).drew)
        have hba1 : Below wr.heap.size wr (wr.alloc (.cells #[.int .i64 0, .slice none 0 0] 24)).drew := (al1 (.cells #[.int .i64 0, .slice none 0 0] 24)).drew
        refine hK.out _ _ ?_ (fun hNext => ?_)
        · exact ⟨kc (al1 _) hHeld.1, (hHeld.2.2.2.2.2.2.2.2.keep (al1 (.cells #[.int .i64 0, .slice none 0 0] 24))).conj⟩
        clear hK K hHeld
        have hHeld := hNext
        clear hNext
        try simp only [List.getElem_toArray, List.getElem_cons_succ, List.getElem_cons_zero, Act.put, List.setIfInBounds_toArray, List.set_cons_zero, List.set_cons_succ]
        refine wpAnyH_ready (rs := [5]) (by kernel_rfl) (by simp) ?_
        refine AllReadyH.cons rfl (fun K hK => ?_) AllReadyH.nil
        go_simp
        (go_at_call 99; ((with_reducible refine (cb _ hba1).mono ?_); rintro e X ⟨ao, cp, rfl, hn, hbX⟩))
        refine hK.out _ _ ?_ (fun hNext => ?_)
        · exact ⟨kc hbX hHeld.1, (hHeld.2.2.2.2.2.2.2.2.keep hbX).conj⟩
        have NX := Lib.hid hn
        have PX := Lib.hid (hHeld.2.2.2.2.2.2.2.2.keep hbX)
        have cX := kc hbX hHeld.1
        have BX2 := Lib.hid (BX.out.keep hbX)
        clear hn hbX
        clear hK K hHeld
        have hHeld := hNext
        clear hNext
        try simp only [List.getElem_toArray, List.getElem_cons_succ, List.getElem_cons_zero, Act.put, List.setIfInBounds_toArray, List.set_cons_zero, List.set_cons_succ]
        refine tk 6 ?_ rfl (by kernel_rfl) (fun _ _ _ h => h) ⟨by rfl, ?_⟩ hHeld ?_; rotate_left
        · intro wS hSw; (try dsimp only at hSw); (try go_split_ands); go_simp; try with_reducible rfl
        refine tk 7 ?_ rfl (by kernel_rfl) (fun _ _ _ h => h) ⟨by rfl, ?_⟩ hHeld ?_; rotate_left
        · intro wS hSw; (try dsimp only at hSw); (try go_split_ands); go_simp; try with_reducible rfl
        refine tk 8 ?_ rfl (by kernel_rfl) (fun _ _ _ h => h) ⟨by rfl, ?_⟩ hHeld ?_; rotate_left
        · intro wS hSw; (try dsimp only at hSw); (try go_split_ands); go_simp; try with_reducible rfl
        try simp only [List.getElem_toArray, List.getElem_cons_succ, List.getElem_cons_zero, Act.put, List.setIfInBounds_toArray, List.set_cons_zero, List.set_cons_succ]
        have z0 := BX2.out.at_ 0 _ rfl
        have z1 := BX2.out.at_ 1 _ rfl
        have fz := BX2.out.fr
        refine wpAnyH_ready (rs := [10]) (by kernel_rfl) (by simp) ?_
        refine AllReadyH.cons rfl (fun K hK => ?_) AllReadyH.nil
        go_simp
        have hq : w.heap.size + 1 + 1 + 1 < wr.heap.size := P9.out.r.lt
        have hbq : wr.heap.size ≠ ba := Nat.ne_of_gt (World.block_lt_of_cell? _ _ cx)
        refine hK.out _ _ ?_ (fun hNext => ?_)
        · exact ⟨setO (setO cX (.inl hbq)) (.inl hbq), (PX.out.two hq _ _).conj⟩
        have PF := Lib.hid (PX.out.two hq (.int .i64 0) (.slice ao Q.length cp))
        have NF := Lib.hid (show NsO wr.heap.size _ ao cp Q from (NX.out.ret (q := wr.heap.size) (by simp) (.int .i64 0) (.slice ao Q.length cp)).low (by simp))
        have BF := Lib.hid (show Bk _ wr.heap.size [.int .i64 0, .slice ao Q.length cp] from (BX2.out.set 0 (.int .i64 0) (by simp)).set 1 (.slice ao Q.length cp) (by simp))
        clear z0 z1 fz
        clear hK K hHeld
        have hHeld := hNext
        clear hNext
        try simp only [List.getElem_toArray, List.getElem_cons_succ, List.getElem_cons_zero, Act.put, List.setIfInBounds_toArray, List.set_cons_zero, List.set_cons_succ]
        refine tk 11 ?_ rfl (by kernel_rfl) (fun _ _ _ h => h) ⟨by rfl, ?_⟩ hHeld ?_; rotate_left
        · intro wS hSw; (try dsimp only at hSw); (try go_split_ands); go_simp; try with_reducible rfl
        try simp only [List.getElem_toArray, List.getElem_cons_succ, List.getElem_cons_zero, Act.put, List.setIfInBounds_toArray, List.set_cons_zero, List.set_cons_succ]
        refine wpAnyH_done (by kernel_rfl) ?_ _
        clear hHeld cX
        generalize (World.setCell _ _ _ : World) = WF at *
        have z0 := BF.out.at_ 0 _ rfl
        have z1 := BF.out.at_ 1 _ rfl
        have r0 := PF.out.r.at_ 0 _ rfl
        have r1 := PF.out.r.at_ 1 _ rfl
        have f0 := PF.out.r.fr 0
        have f1 := PF.out.r.fr 1
        go_wp2_with (fail)
        have hq2 : w.heap.size + 1 + 1 + 1 < wr.heap.size := P9.out.r.lt
        refine bodyPost_ret (v := .agg #[.int .i64 0, .slice ao Q.length cp]) (by simp [results, Try.results76, go_sem, r0, r1]) rfl ⟨ao, cp, rfl, (NF.out.ret (q := w.heap.size + 1 + 1 + 1) hq2 _ _).toQ (fun j _ hj => by have := HBs.out j hj; omega), (fun g' o sp e => .inr (by subst e; have := NF.out.newer; omega)), ?_⟩
        exact ((PF.out.b.setCell (p := ⟨w.heap.size + 1 + 1 + 1, 0, none⟩) (.inr (by show _ ≤ w.heap.size + 1 + 1 + 1; omega)) _).setCell (p := ⟨w.heap.size + 1 + 1 + 1, 1, none⟩) (.inr (by show _ ≤ w.heap.size + 1 + 1 + 1; omega)) _).mono (fun i hi _ => ⟨0, none, by have e : i = g := hi; rw [e]⟩)
theorem ps_any (cap : Nat) (Z : Nat → Prop) (a : Option Addr) (N : List Nd) (h l cc u m h' l' c' u' m' : Int) (o : OpD) (s : Sh) (w : World) (hN : NsQ Z w a cap N) (hB : ∀ j, Z j → j < w.heap.size) (hsm : Small N) (hT : Tr N s 0) (hp : lay N s 0 = N) (hle : N.length + 2 ≤ 2000) (hP : (allP N s.lvs).length ≤ 1099999) (hC : Cl h l cc u m h' l' c' u' m') (Q : List Nd) (hD : DoS N s h' l' c' u' m' o Q) :
    Calls Try.prog 76 #[trv 0 a cap N, polv h l cc u m, opv o.c o.k o.h o.v] w (PsIs w Z a Q) := by
  obtain ⟨c, k, hi, v⟩ := o
  obtain ⟨g, rfl, hg⟩ := hN.at0 (by have := hT.all; have := s.pre_pos; omega)
  rcases doS_at hT hp hD with ⟨ho, hD⟩ | ⟨ho, rfl⟩
  · dsimp only at ho hD
    have ho1 := ho.1
    have ho2 := ho.2
    rcases hD with ⟨h3, d, hQ⟩ | ⟨h5, hk, hne, d, hQ⟩ | ⟨h1, h2, rfl⟩
    · exact ps_upd g cap Z N h l cc u m h' l' c' u' m' c k hi v s w hN hB hg hsm hT ⟨ho.1, h3⟩ hle hP hC d Q hQ
    · exact ps_rng g cap Z N h l cc u m h' l' c' u' m' c k hi v s w hN hB hg hsm hT h5 hk hne hle hP hC d Q hQ
    · refine ps_stay g cap Z Q h l cc u m h' l' c' u' m' c k hi v s w hN hB hg hsm hT (fun x => h1 x.2) ?_
      unfold tchO tchd
      rw [if_pos ho]
      by_cases h4 : c ≤ 4
      · rw [if_pos h4]; simp
      · rw [if_neg h4]
        by_cases h6 : c ≤ 6 ∧ k ≤ hi
        · rw [if_pos h6]
          have he : (dn Q k s).i = (dn Q hi s).i := Classical.byContradiction (fun hne => h2 ⟨by omega, h6.2, hne⟩)
          rw [(tch_two (lvs_nodup hT.nd) h6.2).1 he]; simp
        · rw [if_neg h6]; simp
  · refine ps_stay g cap Z Q h l cc u m h' l' c' u' m' c k hi v s w hN hB hg hsm hT (fun x => ho ⟨x.1, by show c ≤ 8; omega⟩) ?_
    unfold tchO
    rw [if_neg ho]; simp
end Go.Proofs.Ytijepfabkalcoaa

