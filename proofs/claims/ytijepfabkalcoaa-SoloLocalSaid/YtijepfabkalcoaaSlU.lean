/- solo.Run and solo.Do: operations one after the other. Conditions: room for two nodes more each time, not too many pairs. osierlaw17.awake: under Eager two puts part a leaf. No condition. Boxes of a tree, a policy, an operation; calls under Off and Eager. No condition: lemmas. -/
import Derived.Test.YtijepfabkalcoaaSlP
import Derived.Test.YtijepfabkalcoaaMdN
namespace Go.Proofs.Ytijepfabkalcoaa
open Go.RowKit
set_option linter.all false

/-- What the nodes must keep out of. -/
def ZU (w : World) (qu g : Nat) (j : Nat) : Prop := j < w.heap.size + 1 + 1 + 1 ∨ j = qu ∨ j = g
/-- What the answers must keep out of. -/
def SU (w : World) (qu : Nat) (ao : Option Addr) (j : Nat) : Prop := j < w.heap.size + 1 + 1 + 1 ∨ j = qu ∨ ∃ o sp, ao = some ⟨j, o, sp⟩
/-- A world between two operations. -/
structure UR (w : World) (h l cc u m : Int) (qu g n : Nat) (As : List Ad) (W : World) (ao : Option Addr) (cp : Nat) (N : List Nd) : Prop where
  p : Bk W (w.heap.size + 1) [.int .i64 h, .int .i64 l, .int .i64 cc, .int .i64 u, .int .i64 m]
  r : Bk W (w.heap.size + 1 + 1) [.int .i64 0, .slice none 0 0]
  u : Bk W qu [.int .i64 0, .slice ao N.length cp]
  ns : NsQ (ZU w qu g) W ao cp N
  a : TR W (SU w qu ao) g n As
  b : Below w.heap.size w W
  q : w.heap.size + 1 + 1 < qu
  g2 : w.heap.size + 1 + 1 < g
  ne : g ≠ qu
theorem UR.keep {w : World} {h l cc u m : Int} {qu g n : Nat} {As : List Ad} {W W' : World} {ao : Option Addr} {cp : Nat} {N : List Nd} (H : UR w h l cc u m qu g n As W ao cp N) (hb : Below W.heap.size W W') : UR w h l cc u m qu g n As W' ao cp N :=
  ⟨H.p.keep hb, H.r.keep hb, H.u.keep hb, H.ns.keep hb, H.a.below hb, bel2 H.b hb, H.q, H.g2, H.ne⟩
theorem NsQ.off {Z : Nat → Prop} {W : World} {cp j o : Nat} {sp : Option Nat} {Q : List Nd} (h : NsQ Z W (some ⟨j, o, sp⟩) cp Q) : ¬ Z j := by
  obtain ⟨M, h1, _⟩ := h
  exact h1.own j rfl
theorem UR.ubox {w : World} {h l cc u m : Int} {qu g n : Nat} {As : List Ad} {W W' : World} {ao : Option Addr} {cp : Nat} {N : List Nd} (H : UR w h l cc u m qu g n As W ao cp N) (ho : Only (fun j => ∃ o sp, ao = some ⟨j, o, sp⟩) W W') : Bk W' qu [.int .i64 0, .slice ao N.length cp] :=
  H.u.only ho (fun hh => by
    obtain ⟨o, sp, rfl⟩ := hh
    exact H.ns.off (.inr (.inl rfl)))
theorem UR.zlt {w : World} {h l cc u m : Int} {qu g n : Nat} {As : List Ad} {W : World} {ao : Option Addr} {cp : Nat} {N : List Nd} (H : UR w h l cc u m qu g n As W ao cp N) (j : Nat) (hj : ZU w qu g j) : j < W.heap.size := by
  have h1 := H.r.lt
  have h2 := H.u.lt
  have h3 := H.a.lt
  unfold ZU at hj
  omega
/-- The next operation has been done. -/
theorem UR.step {w : World} {h l cc u m : Int} {qu g n : Nat} {As : List Ad} {W W' : World} {ao ao' : Option Addr} {cp cp' : Nat} {N N' : List Nd} (H : UR w h l cc u m qu g n As W ao cp N)
    (hn : NsQ (ZU w qu g) W' ao' cp' N') (hg : ∀ g' o sp, ao' = some ⟨g', o, sp⟩ → (∃ o' sp', ao = some ⟨g', o', sp'⟩) ∨ W.heap.size ≤ g') (ho : Only (fun j => ∃ o sp, ao = some ⟨j, o, sp⟩) W W') :
    UR w h l cc u m qu g n As ((W'.setCell ⟨qu, 0, none⟩ (.int .i64 0)).setCell ⟨qu, 1, none⟩ (.slice ao' N'.length cp')) ao' cp' N' := by
  have off : ∀ j, (∃ o sp, ao = some ⟨j, o, sp⟩) → ¬ ZU w qu g j := by
    rintro j ⟨o, sp, rfl⟩
    exact H.ns.off
  have hq := H.q
  have hg2 := H.g2
  have hO : Only (fun j => j = qu) W' ((W'.setCell ⟨qu, 0, none⟩ (.int .i64 0)).setCell ⟨qu, 1, none⟩ (.slice ao' N'.length cp')) := ((Only.refl _ _).setCell (S := fun j => j = qu) (p := ⟨qu, 0, none⟩) (.inl rfl) _).setCell (S := fun j => j = qu) (p := ⟨qu, 1, none⟩) (.inl rfl) _
  have a1 : TR W (fun j => SU w qu ao j ∨ W.heap.size ≤ j) g n As := H.a.sub (fun k hk hs => by rcases hs with hs | hs; exact hs; omega)
  have a2 : TR W' (fun j => SU w qu ao j ∨ W.heap.size ≤ j) g n As := a1.only ho (fun hh => off g hh (.inr (.inr rfl))) (fun k hk => .inl (.inr (.inr hk)))
  have a3 : TR W' (SU w qu ao') g n As := a2.sub (fun k hk hs => by
    rcases hs with hs | hs | ⟨o, sp, hs⟩
    · exact .inl (.inl hs)
    · exact .inl (.inr (.inl hs))
    · rcases hg k o sp hs with e | e
      · exact .inl (.inr (.inr e))
      · exact .inr e)
  refine ⟨(H.p.only ho (fun hh => off _ hh (.inl (by omega)))).only hO (fun e => by have : w.heap.size + 1 = qu := e; omega), (H.r.only ho (fun hh => off _ hh (.inl (by omega)))).only hO (fun e => by have : w.heap.size + 1 + 1 = qu := e; omega), ?_, hn.only hO (fun k hk => .inr (.inl hk)), a3.only hO H.ne (fun k hk => .inr (.inl hk)), ?_, H.q, H.g2, H.ne⟩
  · have h1 := H.u.only ho (fun hh => off _ hh (.inr (.inl rfl)))
    exact (h1.set 0 (.int .i64 0) (by simp)).set 1 (.slice ao' N'.length cp') (by simp)
  · have h1 : Below w.heap.size W W' := ho.below (fun j hj => by
      have := off j hj
      unfold ZU at this
      omega) H.b.size
    exact ((H.b.trans h1).setCell (by show _ ≤ qu; omega) _).setCell (by show _ ≤ qu; omega) _
/-- What Run tells. -/
def RnIs (w : World) (Q : List Nd) (As : List Ad) (e : Ending) (w' : World) : Prop :=
  ∃ ao cp g, e = .returned (.tuple #[.agg #[.int .i64 0, .slice ao Q.length cp], .slice (some ⟨g, 0, none⟩) As.length As.length]) ∧ NsQ (fun j => j < w.heap.size) w' ao cp Q ∧ TR w' (fun j => j < w.heap.size) g As.length As ∧ w.heap.size ≤ g ∧ Below w.heap.size w w'
/-- Run's boxes at first. -/
structure R0 (w : World) (t : Int) (a : Option Addr) (n cap : Nat) (h l cc u m : Int) (W : World) : Prop where
  t : Bk W w.heap.size [.int .i64 t, .slice a n cap]
  p : Bk W (w.heap.size + 1) [.int .i64 h, .int .i64 l, .int .i64 cc, .int .i64 u, .int .i64 m]
  r : Bk W (w.heap.size + 1 + 1) [.int .i64 0, .slice none 0 0]
  b : Below w.heap.size w W
theorem R0.keep {w : World} {t : Int} {a : Option Addr} {n cap : Nat} {h l cc u m : Int} {W W' : World} (H : R0 w t a n cap h l cc u m W) (hb : Below W.heap.size W W') : R0 w t a n cap h l cc u m W' := ⟨H.t.keep hb, H.p.keep hb, H.r.keep hb, bel2 H.b hb⟩
theorem R0.new (w : World) (t : Int) (a : Option Addr) (n cap : Nat) (h l cc u m : Int) : R0 w t a n cap h l cc u m (((w.alloc (.cells #[.int .i64 t, .slice a n cap] 24)).alloc (.cells #[.int .i64 h, .int .i64 l, .int .i64 cc, .int .i64 u, .int .i64 m] 26)).alloc (.cells #[.int .i64 0, .slice none 0 0] 24)) := by
  refine ⟨((Bk.new w _ _).past _).past _, ?_, ?_, bel1 (bel1 (al1 _) _) _⟩
  · have h := (Bk.new (w.alloc (.cells #[.int .i64 t, .slice a n cap] 24)) #[.int .i64 h, .int .i64 l, .int .i64 cc, .int .i64 u, .int .i64 m] 26).past (.cells #[.int .i64 0, .slice none 0 0] 24)
    simp only [World.size_alloc] at h; exact h
  · have h := Bk.new ((w.alloc (.cells #[.int .i64 t, .slice a n cap] 24)).alloc (.cells #[.int .i64 h, .int .i64 l, .int .i64 cc, .int .i64 u, .int .i64 m] 26)) #[.int .i64 0, .slice none 0 0] 24
    simp only [World.size_alloc] at h; exact h
set_option maxRecDepth 100000 in
set_option maxHeartbeats 12800000 in
theorem srun_yes (t : Int) (a : Option Addr) (cap : Nat) (N : List Nd) (h l cc u m h' l' c' u' m' : Int) (oa : Option Addr) (ocap : Nat) (zs : List OpD) (w : World) (hN : Ns w a cap N) (hsm : Small N) (s : Sh) (hT : Tr N s t) (hz : Ops w oa ocap zs)
    (hle : N.length + 2 * zs.length ≤ 1998) (hP : (allP N s.lvs).length + zs.length ≤ 1099999) (hC : Cl h l cc u m h' l' c' u' m') (f : Nat → List Nd) (f0 : f 0 = lay N s 0) (hf : Chn h' l' c' u' m' zs f) :
    Calls Try.prog 39 #[trv t a cap N, polv h l cc u m, .slice oa zs.length ocap] w (RnIs w (f zs.length) (runA (allP N s.lvs) zs)) := by
  have K1 := Lib.hid (R0.new w t a N.length cap h l cc u m)
  have cm := fun W (hb : Below w.heap.size w W) => tplain_own t a cap N W (hN.keep hb) hsm s hT
  rw [← f0] at cm
  unfold PlW trv at cm
  obtain ⟨g1, g2, g3, _⟩ := lay_tr hT
  have hpl := lay_plain hT
  rw [← f0] at g1 g2 g3 hpl
  have hsm1 : Small (f 0) := tr_small g1 (by rw [g2]; omega) g1.le
  have hn : zs.length ≤ 2000 := by omega
  have hCI := chn_is hf g1 hpl
  rw [g2, g3] at hCI
  have ca := fun (ao : Option Addr) (cp : Nat) (W : World) (hW : Ns W ao cp (f 0)) => tall_gen 0 ao cp (f 0) W hW hsm1 ((ab N s).sh 0).lvs ⟨by have := lvs_len ((ab N s).sh 0); have := g1.all; omega, fun i hi => g1.hg.lt i (lvs_pre _ _ hi)⟩ (fun W2 hW2 => tleaves_yes 0 ao cp (f 0) W2 hW2 hsm1 _ g1)
  rw [g2] at ca
  have hL := (allP_srt hT.hg).1
  obtain ⟨L, hLe⟩ : ∃ L, allP N s.lvs = L := ⟨_, rfl⟩
  rw [hLe] at ca hCI hP hL ⊢
  have cn := fun (ao : Option Addr) (cp : Nat) (W : World) (hW : Prs W ao cp L) => new_any ao cp L W hW (by omega)
  rw [putsL_self hL] at cn
  have cr := fun (b : Nat) (W : World) (hb : MapAt W (fun j => j < w.heap.size ∨ j = b) b L) (hS : ∀ j, (j < w.heap.size ∨ j = b) → j < W.heap.size) (hw : Below w.heap.size w W) (hbb : w.heap.size ≤ b) => mrun_all b (fun j => j < w.heap.size ∨ j = b) L oa ocap zs W hb hS (hz.below hw) (fun n q hq ad e => by
    obtain ⟨b', o', e', c0, _⟩ := hz.2.2.1 n q hq
    rw [e] at e'
    cases e'
    have := World.block_lt_of_cell? w _ c0
    show ¬ b' = b
    have : b' < w.heap.size := this
    omega) (by omega) hn
  unfold NewIs at cn
  unfold RunIs at cr
  unfold RowIs trv at ca
  have HCI := Lib.hid hCI
  have HZ := Lib.hid hz
  have HF := Lib.hid hf
  have hcz := hz.1
  have hcz2 := hz.2.1
  unfold maxLen at hcz2
  have HLe := Lib.hid (And.intro hle hP)
  have HC := Lib.hid hC
  have HN1 : Hid (0 < (f 0).length) := Lib.hid (by have := g1.all; have := ((ab N s).sh 0).pre_pos; omega)
  unfold polv trv
  clear hN hT hsm hz f0 g1 g2 g3 hpl hsm1 hCI hL hLe hle hP hC hf
  go_enter Try.func39, Try.ntmps39
  go_wp2_with (first
    | (go_at_call 73; ((with_reducible refine (cm _ K1.out.b).mono ?_); clear cm; rintro e w3 ⟨ao, cp, rfl, hno, hb3⟩; have K3 := Lib.hid ((K1.out.keep hb3).keep (al1 (.cells #[.int .i64 0, .slice ao (f 0).length cp] 24))); have U3 := Lib.hid (Bk.new w3 #[.int .i64 0, .slice ao (f 0).length cp] 24); have HQ3 := Lib.hid (K1.out.keep hb3).r.lt; have NO := Lib.hid hno; have NO3 := Lib.hid (hno.keep (al1 (.cells #[.int .i64 0, .slice ao (f 0).length cp] 24))); have BB3 := Lib.hid (al1 (w := w3) (.cells #[.int .i64 0, .slice ao (f 0).length cp] 24)); clear hb3 hno; have u0 := U3.out.at_ 0 _ rfl; have u1 := U3.out.at_ 1 _ rfl))
    | (go_at_call 74; ((with_reducible refine (ca _ _ _ NO3.out.ns).mono ?_); clear ca; rintro e w4 ⟨a4, c4, rfl, hR4, hb4⟩; have K4 := Lib.hid (K3.out.keep hb4); have U4 := Lib.hid (U3.out.keep hb4); have NO4 := Lib.hid (NO3.out.keep hb4); have P4 := Lib.hid (hR4.prs rfl); have BB4 := Lib.hid (bel2 BB3.out hb4); clear hR4 hb4 u0 u1))
    | (go_at_call 55; ((with_reducible refine (cn _ _ _ P4.out).mono ?_); clear cn; rintro e w5 ⟨b5, rfl, hb5l, hM5, hb5⟩; have K5 := Lib.hid (K4.out.keep hb5); have U5 := Lib.hid (U4.out.keep hb5); have NO5 := Lib.hid (NO4.out.keep hb5); have M5 := Lib.hid (hM5.sub (S' := fun j => j < w.heap.size ∨ j = b5) (.inr rfl) (fun k _ hk => hk.elim (fun e => .inl (Nat.lt_of_lt_of_le e K4.out.b.size)) .inr)); have HB5 := Lib.hid hb5l; have BB5 := Lib.hid (bel2 BB4.out hb5); clear hb5 hM5 hb5l))
    | (go_at_call 75; ((with_reducible refine (cr _ _ M5.out (fun j hj => hj.elim (fun e => Nat.lt_of_lt_of_le e K5.out.b.size) (fun e => by rw [e]; exact M5.out.lt)) K5.out.b (Nat.le_trans K4.out.b.size HB5.out)).mono ?_); clear cr; rintro e w6 ⟨rfl, hT6, -, hO6⟩; have HT6 := Lib.hid hT6; have HO6 := Lib.hid hO6; clear hT6 hO6))
    | fail)
  have hq1 : w.heap.size + 1 + 1 < w3.heap.size := HQ3.out
  have hq2 := U4.out.lt
  have hq3 := HB5.out
  have hq4 := M5.out.lt
  have hk : ((((w.alloc (.cells #[.int .i64 t, .slice a N.length cap] 24)).alloc (.cells #[.int .i64 h, .int .i64 l, .int .i64 cc, .int .i64 u, .int .i64 m] 26)).alloc (.cells #[.int .i64 0, .slice none 0 0] 24))).heap.size = w.heap.size + 1 + 1 + 1 := by simp
  have NQ3 : NsQ (fun j => ZU w w3.heap.size w5.heap.size j ∨ j = b5) w3 ao cp (f 0) := NO.out.toQ (fun j hj hz => by
    rw [hk]
    unfold ZU at hz
    omega)
  have HU : UR w h l cc u m w3.heap.size w5.heap.size zs.length (runA L zs) w6 ao cp (f 0) := by
    have NQ6 := (NQ3.keep BB5.out).only HO6.out (fun k hk => .inr hk)
    obtain ⟨g0, e0, hg0⟩ := (NQ3.keep BB5.out).at0 HN1.out
    refine ⟨K5.out.p.only HO6.out (fun e => by have : w.heap.size + 1 = b5 := e; omega), K5.out.r.only HO6.out (fun e => by have : w.heap.size + 1 + 1 = b5 := e; omega), U5.out.only HO6.out (fun e => by have : w3.heap.size = b5 := e; omega), NQ6.sub (fun k _ hk => .inl hk), HT6.out.sub (fun k _ hk => ?_), K5.out.b.trans (HO6.out.below (B := w.heap.size) (fun i hi => by have : i = b5 := hi; omega) K5.out.b.size), hq1, by omega, by omega⟩
    rcases hk with hk | hk | ⟨o, sp, hk⟩
    · exact .inl (by omega)
    · exact .inl (by omega)
    · rw [e0] at hk; cases hk; exact .inl hg0
  have HU0 := Lib.hid HU
  clear NQ3 HU K1 K3 U3 NO NO3 K4 U4 NO4 P4 K5 U5 NO5 M5 HT6 HO6 HQ3 BB3 BB4 BB5 hq1 hq2 hq3 hq4 hk HB5
  generalize w3.heap.size = qu at *
  generalize w5.heap.size = gg at *
  go_loopw [28] (fun z wr => ∃ (j : Nat) (ao : Option Addr) (cp : Nat), j ≤ zs.length ∧ z = .int .i64 j ∧ UR w h l cc u m qu gg zs.length (runA L zs) wr ao cp (f j)) (fun z _ => zs.length - (intOf z).toNat)
  case atStart => exact ⟨0, ao, cp, Nat.zero_le _, rfl, HU0.out⟩
  case round =>
    clear HU0
    obtain ⟨j, ao, cp, hj, rfl, hU⟩ := hrel
    have HU := Lib.hid hU
    clear hU
    by_cases hlt : j < zs.length
    · obtain ⟨q, hq⟩ : ∃ q, zs[j]? = some q := ⟨_, List.getElem?_eq_getElem hlt⟩
      obtain ⟨ob, oo, rfl, q0, q1, q2, q3⟩ := (HZ.out.below HU.out.b).2.2.1 j q hq
      have hltI : (j : Int) < (zs.length : Int) := by omega
      have hj0 : (0 : Int) ≤ (j : Int) := by omega
      have HLT := Lib.hid hlt
      have HWJ := Lib.hid (wj_one hlt hn)
      obtain ⟨s', hT', hp', hA', hl'⟩ := HCI.out j (by omega)
      obtain ⟨s2, hT2, hD⟩ := HF.out j q hq
      obtain rfl := hT2.uniq hT'
      have hrl := runP_take_len (L := L) zs j
      rw [← hA'] at hrl
      have H2 := Lib.hid (HU.out.keep (al1 (.cells #[.int .i64 q.c, .int .i64 q.k, .int .i64 q.h, .int .i64 q.v] 28)))
      have cs := ps_any cp (ZU w qu gg) ao (f j) h l cc u m h' l' c' u' m' q s2 _ H2.out.ns (fun i hi => H2.out.zlt i hi) (tr_small hT' (by have := HLe.out.2; omega) hT'.le) hT' hp' (by have := HLe.out.1; omega) (by have := HLe.out.2; omega) HC.out (f (j + 1)) hD
      unfold PsIs trv polv opv at cs
      have u0 := H2.out.u.at_ 0 _ rfl
      have u1 := H2.out.u.at_ 1 _ rfl
      have p0 := H2.out.p.at_ 0 _ rfl
      have p1 := H2.out.p.at_ 1 _ rfl
      have p2 := H2.out.p.at_ 2 _ rfl
      have p3 := H2.out.p.at_ 3 _ rfl
      have p4 := H2.out.p.at_ 4 _ rfl
      have B4 := Bk.new wr #[.int .i64 q.c, .int .i64 q.k, .int .i64 q.h, .int .i64 q.v] 28
      have o0 := B4.at_ 0 _ rfl
      have o1 := B4.at_ 1 _ rfl
      have o2 := B4.at_ 2 _ rfl
      have o3 := B4.at_ 3 _ rfl
      clear hq hT' hp' hA' hl' hD hrl B4
      go_wp2_with (go_at_call 76; ((with_reducible refine cs.mono ?_); clear cs; rintro e W2 ⟨ao2, cp2, rfl, hn2, hg2, hO2⟩; have UB := H2.out.ubox hO2; have HS := Lib.hid (H2.out.step hn2 hg2 hO2); clear hn2 hg2 hO2 u0 u1 p0 p1 p2 p3 p4 o0 o1 o2 o3; have u0 := UB.at_ 0 _ rfl; have u1 := UB.at_ 1 _ rfl; have f0 := UB.fr 0; have f1 := UB.fr 1; clear UB))
      go_roundw
      case rel => exact ⟨j + 1, ao2, cp2, HLT.out, (by first | go_num | (rw [HWJ.out]; go_num)), HS.out⟩
      case measure => first | with_reducible exact wm_one HLT.out | with_reducible exact wm_two HLT.out HWJ.out
    · obtain rfl : j = zs.length := by omega
      have u0 := HU.out.u.at_ 0 _ rfl
      have u1 := HU.out.u.at_ 1 _ rfl
      have r0 := HU.out.r.at_ 0 _ rfl
      have r1 := HU.out.r.at_ 1 _ rfl
      have f0 := HU.out.r.fr 0
      have f1 := HU.out.r.fr 1
      go_wp2_with (fail)
      have hq := HU.out.q
      have hg2 := HU.out.g2
      have hO : Only (fun i => i = w.heap.size + 1 + 1) wr ((wr.setCell ⟨w.heap.size + 1 + 1, 0, none⟩ (.int .i64 0)).setCell ⟨w.heap.size + 1 + 1, 1, none⟩ (.slice ao (f zs.length).length cp)) := ((Only.refl _ _).setCell (S := fun i => i = w.heap.size + 1 + 1) (p := ⟨w.heap.size + 1 + 1, 0, none⟩) (.inl rfl) _).setCell (S := fun i => i = w.heap.size + 1 + 1) (p := ⟨w.heap.size + 1 + 1, 1, none⟩) (.inl rfl) _
      refine bodyPost_ret (v := .tuple #[.agg #[.int .i64 0, .slice ao (f zs.length).length cp], .slice (some ⟨gg, 0, none⟩) zs.length zs.length]) (by simp [results, Try.results39, go_sem, r0, r1]) rfl ⟨ao, cp, gg, by rw [runA_len], (HU.out.ns.only hO (fun k hk => .inl (by have e : k = _ := hk; omega))).sub (fun k _ hk => .inl (by have e : k < w.heap.size := hk; omega)), ?_, by omega, ret_below HU.out.b (by omega) _ _⟩
      rw [runA_len]
      exact (HU.out.a.only hO (fun e => by have e2 : gg = _ := e; omega) (fun k hk => .inl (by have e : k = _ := hk; omega))).sub (fun k _ hk => .inl (by omega))
theorem srun_any (t : Int) (a : Option Addr) (cap : Nat) (N : List Nd) (h l cc u m h' l' c' u' m' : Int) (oa : Option Addr) (ocap : Nat) (zs : List OpD) (w : World) (hN : Ns w a cap N) (hsm : Small N) (s : Sh) (hT : Tr N s t) (hz : Ops w oa ocap zs)
    (hle : N.length + 2 * zs.length ≤ 1998) (hP : (allP N s.lvs).length + zs.length ≤ 1099999) (hC : Cl h l cc u m h' l' c' u' m') (f : Nat → List Nd) (f0 : f 0 = lay N s 0) (hf : Chn h' l' c' u' m' zs f) :
    Calls Try.prog 39 #[trv t a cap N, polv h l cc u m, .slice oa zs.length ocap] w (RnIs w (f zs.length) (runA (allP N s.lvs) zs)) := srun_yes t a cap N h l cc u m h' l' c' u' m' oa ocap zs w hN hsm s hT hz hle hP hC f f0 hf
/-- A tree and an answer are told. -/
def SoIs (w : World) (Q : List Nd) (A : Ad) (e : Ending) (w' : World) : Prop :=
  ∃ ao cp a2 c2, e = .returned (.tuple #[.agg #[.int .i64 0, .slice ao Q.length cp], A.val a2 c2]) ∧ Ns w' ao cp Q ∧ Prs w' a2 c2 A.ps ∧ Below w.heap.size w w'
/-- Solo's boxes: the tree, the policy, the operation, what is told. -/
structure SB (w W : World) (ct : List Value) (h l cc u m c k hi v : Int) : Prop where
  tb : Bk W w.heap.size ct
  pb : Bk W (w.heap.size + 1) [.int .i64 h, .int .i64 l, .int .i64 cc, .int .i64 u, .int .i64 m]
  ob : Bk W (w.heap.size + 1 + 1) [.int .i64 c, .int .i64 k, .int .i64 hi, .int .i64 v]
  rt : Bk W (w.heap.size + 1 + 1 + 1) [.int .i64 0, .slice none 0 0]
  ra : Bk W (w.heap.size + 1 + 1 + 1 + 1) [.int .i64 0, .bool false, .int .i64 0, .int .i64 0, .int .i64 0, .slice none 0 0]
  b : Below w.heap.size w W
theorem SB.keep {w W W' : World} {ct : List Value} {h l cc u m c k hi v : Int} (H : SB w W ct h l cc u m c k hi v) (hb : Below W.heap.size W W') : SB w W' ct h l cc u m c k hi v :=
  ⟨H.tb.keep hb, H.pb.keep hb, H.ob.keep hb, H.rt.keep hb, H.ra.keep hb, bel2 H.b hb⟩
theorem SB.new (w : World) (t : Int) (a : Option Addr) (n cap : Nat) (h l cc u m c k hi v : Int) :
    SB w (((((w.alloc (.cells #[.int .i64 t, .slice a n cap] 24)).alloc (.cells #[.int .i64 h, .int .i64 l, .int .i64 cc, .int .i64 u, .int .i64 m] 26)).alloc (.cells #[.int .i64 c, .int .i64 k, .int .i64 hi, .int .i64 v] 28)).alloc (.cells #[.int .i64 0, .slice none 0 0] 24)).alloc (.cells #[.int .i64 0, .bool false, .int .i64 0, .int .i64 0, .int .i64 0, .slice none 0 0] 44)) [.int .i64 t, .slice a n cap] h l cc u m c k hi v := by
  refine ⟨((((Bk.new w _ _).past _).past _).past _).past _, ?_, ?_, ?_, ?_, bel1 (bel1 (bel1 (bel1 (al1 _) _) _) _) _⟩
  · have h := (((Bk.new (w.alloc (.cells #[.int .i64 t, .slice a n cap] 24)) #[.int .i64 h, .int .i64 l, .int .i64 cc, .int .i64 u, .int .i64 m] 26).past (.cells #[.int .i64 c, .int .i64 k, .int .i64 hi, .int .i64 v] 28)).past (.cells #[.int .i64 0, .slice none 0 0] 24)).past (.cells #[.int .i64 0, .bool false, .int .i64 0, .int .i64 0, .int .i64 0, .slice none 0 0] 44)
    simp only [World.size_alloc] at h; exact h
  · have h := ((Bk.new ((w.alloc (.cells #[.int .i64 t, .slice a n cap] 24)).alloc (.cells #[.int .i64 h, .int .i64 l, .int .i64 cc, .int .i64 u, .int .i64 m] 26)) #[.int .i64 c, .int .i64 k, .int .i64 hi, .int .i64 v] 28).past (.cells #[.int .i64 0, .slice none 0 0] 24)).past (.cells #[.int .i64 0, .bool false, .int .i64 0, .int .i64 0, .int .i64 0, .slice none 0 0] 44)
    simp only [World.size_alloc] at h; exact h
  · have h := (Bk.new (((w.alloc (.cells #[.int .i64 t, .slice a n cap] 24)).alloc (.cells #[.int .i64 h, .int .i64 l, .int .i64 cc, .int .i64 u, .int .i64 m] 26)).alloc (.cells #[.int .i64 c, .int .i64 k, .int .i64 hi, .int .i64 v] 28)) #[.int .i64 0, .slice none 0 0] 24).past (.cells #[.int .i64 0, .bool false, .int .i64 0, .int .i64 0, .int .i64 0, .slice none 0 0] 44)
    simp only [World.size_alloc] at h; exact h
  · have h := Bk.new ((((w.alloc (.cells #[.int .i64 t, .slice a n cap] 24)).alloc (.cells #[.int .i64 h, .int .i64 l, .int .i64 cc, .int .i64 u, .int .i64 m] 26)).alloc (.cells #[.int .i64 c, .int .i64 k, .int .i64 hi, .int .i64 v] 28)).alloc (.cells #[.int .i64 0, .slice none 0 0] 24)) #[.int .i64 0, .bool false, .int .i64 0, .int .i64 0, .int .i64 0, .slice none 0 0] 44
    simp only [World.size_alloc] at h; exact h
/-- The tree's box, written over. -/
theorem SB.over {w W : World} {x y x' y' : Value} {h l cc u m c k hi v : Int} (H : SB w W [x, y] h l cc u m c k hi v) : SB w ((W.setCell ⟨w.heap.size, 0, none⟩ x').setCell ⟨w.heap.size, 1, none⟩ y') [x', y'] h l cc u m c k hi v :=
  ⟨(H.tb.set 0 x' (by simp)).set 1 y' (by simp), (H.pb.other _ (by omega)).other _ (by omega), (H.ob.other _ (by omega)).other _ (by omega), (H.rt.other _ (by omega)).other _ (by omega), (H.ra.other _ (by omega)).other _ (by omega), (H.b.setCell (Nat.le_refl _) _).setCell (Nat.le_refl _) _⟩
theorem ops1' (w : World) (o : OpD) (h : o.wf) : Ops (w.alloc (.cells #[.int .i64 o.c, .int .i64 o.k, .int .i64 o.h, .int .i64 o.v] 28)) (some ⟨w.heap.size, 0, none⟩) 1 [o] :=
  ⟨Nat.le_refl _, by unfold maxLen; omega, fun n q hq => by
    match n, hq with
    | 0, hq => simp at hq; subst hq; exact ⟨_, _, rfl, by simp, by simp, by simp, by simp⟩, fun q hq => by simp at hq; rw [hq]; exact h⟩
set_option maxRecDepth 100000 in
set_option maxHeartbeats 12800000 in
theorem sdo_yes (t : Int) (a : Option Addr) (cap : Nat) (N : List Nd) (h l cc u m h' l' c' u' m' : Int) (o : OpD) (how : o.wf) (w : World) (hN : Ns w a cap N) (hsm : Small N) (s : Sh) (hT : Tr N s t)
    (hle : N.length ≤ 1996) (hP : (allP N s.lvs).length ≤ 1099998) (hC : Cl h l cc u m h' l' c' u' m') (Q : List Nd) (hD : DoS N s h' l' c' u' m' o Q) :
    Calls Try.prog 17 #[trv t a cap N, polv h l cc u m, opv o.c o.k o.h o.v] w (SoIs w Q (doA (allP N s.lvs) o.c o.k o.h)) := by
  have K1 := Lib.hid (SB.new w t a N.length cap h l cc u m o.c o.k o.h o.v)
  have cr : ∀ (oa : Option Addr) (ocap : Nat) (W : World), Below w.heap.size w W → Ops W oa ocap [o] → Calls Try.prog 39 #[trv t a cap N, polv h l cc u m, .slice oa 1 ocap] W (RnIs W Q [doA (allP N s.lvs) o.c o.k o.h]) := fun oa ocap W hb hz => srun_any t a cap N h l cc u m h' l' c' u' m' oa ocap [o] W (hN.keep hb) hsm s hT hz (by simp; omega) (by simp; omega) hC (fun i => match i with | 0 => lay N s 0 | _ + 1 => Q) rfl (fun i q hi => by
    match i, hi with
    | 0, hi => simp at hi; subst hi; exact ⟨(ab N s).sh 0, (lay_tr hT).1, doS_lay hT hD⟩)
  unfold RnIs trv polv at cr
  unfold SoIs
  generalize doA (allP N s.lvs) o.c o.k o.h = D at cr ⊢
  obtain ⟨d0, d1, d2, d3, d4, dp⟩ := D
  unfold Ad.val
  have l1 : ∀ x : Ad, [x].length = 1 := fun _ => rfl
  simp only [l1] at cr
  dsimp only
  clear l1
  unfold polv opv trv
  have K2 := Lib.hid (K1.out.keep (al1 (.cells #[.int .i64 o.c, .int .i64 o.k, .int .i64 o.h, .int .i64 o.v] 28)))
  have OP := ops1' (((((w.alloc (.cells #[.int .i64 t, .slice a N.length cap] 24)).alloc (.cells #[.int .i64 h, .int .i64 l, .int .i64 cc, .int .i64 u, .int .i64 m] 26)).alloc (.cells #[.int .i64 o.c, .int .i64 o.k, .int .i64 o.h, .int .i64 o.v] 28)).alloc (.cells #[.int .i64 0, .slice none 0 0] 24)).alloc (.cells #[.int .i64 0, .bool false, .int .i64 0, .int .i64 0, .int .i64 0, .slice none 0 0] 44)) o how
  simp only [World.size_alloc] at OP
  have OPH := Lib.hid OP
  clear hN hsm hT hle hP hC hD OP
  have hK := Lib.hid True.intro
  have t0 := K1.out.tb.at_ 0 _ rfl
  have t1 := K1.out.tb.at_ 1 _ rfl
  have p0 := K1.out.pb.at_ 0 _ rfl
  have p1 := K1.out.pb.at_ 1 _ rfl
  have p2 := K1.out.pb.at_ 2 _ rfl
  have p3 := K1.out.pb.at_ 3 _ rfl
  have p4 := K1.out.pb.at_ 4 _ rfl
  have q0 := K1.out.ob.at_ 0 _ rfl
  have q1 := K1.out.ob.at_ 1 _ rfl
  have q2 := K1.out.ob.at_ 2 _ rfl
  have q3 := K1.out.ob.at_ 3 _ rfl
  go_enter Try.func17, Try.ntmps17
  go_upto_region 4 with (go_at_call 39; ((with_reducible refine (cr _ _ _ K2.out.b OPH.out).mono ?_); clear cr; rintro e w3 ⟨ao, cp, g, rfl, hn, htr, hgl, hb3⟩; have K3 := Lib.hid ((K2.out.keep hb3).keep (al1 (.cells #[.int .i64 0, .slice ao Q.length cp] 24))); have U3 := Lib.hid (Bk.new w3 #[.int .i64 0, .slice ao Q.length cp] 24); have N3 := Lib.hid (hn.keep (al1 (.cells #[.int .i64 0, .slice ao Q.length cp] 24))); obtain ⟨aa, ca, hat⟩ := (htr.below (al1 (.cells #[.int .i64 0, .slice ao Q.length cp] 24))).at_ 0 _ rfl (by decide); have HAT := Lib.hid hat; have HGL := Lib.hid hgl; clear hb3 hn htr hgl; obtain ⟨x0, x1, x2, x3, x4, x5, -⟩ := hat; clear t0 t1 p0 p1 p2 p3 p4 q0 q1 q2 q3; have u0 := U3.out.at_ 0 _ rfl; have u1 := U3.out.at_ 1 _ rfl; have r0 := K3.out.rt.at_ 0 _ rfl; have g0 := K3.out.rt.fr 0; have r1 := K3.out.rt.at_ 1 _ rfl; have g1 := K3.out.rt.fr 1; have s0 := K3.out.ra.at_ 0 _ rfl; have e0 := K3.out.ra.fr 0; have s1 := K3.out.ra.at_ 1 _ rfl; have e1 := K3.out.ra.fr 1; have s2 := K3.out.ra.at_ 2 _ rfl; have e2 := K3.out.ra.fr 2; have s3 := K3.out.ra.at_ 3 _ rfl; have e3 := K3.out.ra.fr 3; have s4 := K3.out.ra.at_ 4 _ rfl; have e4 := K3.out.ra.fr 4; have s5 := K3.out.ra.at_ 5 _ rfl; have e5 := K3.out.ra.fr 5))
  simp only [Nat.zero_mul, Nat.zero_add] at x0 x1 x2 x3 x4 x5
  have hgl : w.heap.size + 1 + 1 + 1 + 1 + 1 < g := by have h1 := HGL.out; have h2 := K1.out.ra.lt; simp only [World.size_alloc] at h1 h2; omega
  have hn1 : ¬ w.heap.size + 1 + 1 + 1 = g := by omega
  have hn2 : ¬ g = w.heap.size + 1 + 1 + 1 := by omega
  have hn3 : ¬ w.heap.size + 1 + 1 + 1 + 1 = g := by omega
  have hn4 : ¬ g = w.heap.size + 1 + 1 + 1 + 1 := by omega
  have HKS := Lib.hid (show w.heap.size + 1 + 1 + 1 + 1 < ((((((w.alloc (.cells #[.int .i64 t, .slice a N.length cap] 24)).alloc (.cells #[.int .i64 h, .int .i64 l, .int .i64 cc, .int .i64 u, .int .i64 m] 26)).alloc (.cells #[.int .i64 o.c, .int .i64 o.k, .int .i64 o.h, .int .i64 o.v] 28)).alloc (.cells #[.int .i64 0, .slice none 0 0] 24)).alloc (.cells #[.int .i64 0, .bool false, .int .i64 0, .int .i64 0, .int .i64 0, .slice none 0 0] 44)).alloc (.cells #[.int .i64 o.c, .int .i64 o.k, .int .i64 o.h, .int .i64 o.v] 28)).heap.size from by simp)
  clear hgl
  go_region
  go_wp2_with (fail)
  generalize hW4 : w3.alloc (.cells #[.int .i64 0, .slice ao Q.length cp] 24) = W4 at *
  have hO : Only (fun j => j = w.heap.size + 1 + 1 + 1 ∨ j = w.heap.size + 1 + 1 + 1 + 1) W4 (((((((((W4.setCell ⟨w.heap.size + 1 + 1 + 1, 0, none⟩ (.int .i64 0)).setCell ⟨w.heap.size + 1 + 1 + 1, 1, none⟩ (.slice ao Q.length cp)).setCell ⟨w.heap.size + 1 + 1 + 1 + 1, 0, none⟩ (.int .i64 d0)).setCell ⟨w.heap.size + 1 + 1 + 1 + 1, 1, none⟩ (.bool d1)).setCell ⟨w.heap.size + 1 + 1 + 1 + 1, 2, none⟩ (.int .i64 d2)).setCell ⟨w.heap.size + 1 + 1 + 1 + 1, 3, none⟩ (.int .i64 d3)).setCell ⟨w.heap.size + 1 + 1 + 1 + 1, 4, none⟩ (.int .i64 d4)).setCell ⟨w.heap.size + 1 + 1 + 1 + 1, 5, none⟩ (.slice aa dp.length ca)).drew) := by
    refine Only.drew ?_
    repeat' (first | refine Only.setCell ?_ (.inl (.inl rfl)) _ | refine Only.setCell ?_ (.inl (.inr rfl)) _ | with_reducible exact Only.refl _ _)
  have hz : ∀ k, (k = w.heap.size + 1 + 1 + 1 ∨ k = w.heap.size + 1 + 1 + 1 + 1) → k < ((((((w.alloc (.cells #[.int .i64 t, .slice a N.length cap] 24)).alloc (.cells #[.int .i64 h, .int .i64 l, .int .i64 cc, .int .i64 u, .int .i64 m] 26)).alloc (.cells #[.int .i64 o.c, .int .i64 o.k, .int .i64 o.h, .int .i64 o.v] 28)).alloc (.cells #[.int .i64 0, .slice none 0 0] 24)).alloc (.cells #[.int .i64 0, .bool false, .int .i64 0, .int .i64 0, .int .i64 0, .slice none 0 0] 44)).alloc (.cells #[.int .i64 o.c, .int .i64 o.k, .int .i64 o.h, .int .i64 o.v] 28)).heap.size := fun k hk => by have := HKS.out; omega
  refine bodyPost_ret (v := .tuple #[.agg #[.int .i64 0, .slice ao Q.length cp], .agg #[.int .i64 d0, .bool d1, .int .i64 d2, .int .i64 d3, .int .i64 d4, .slice aa dp.length ca]]) (by simp [results, Try.results17, go_sem, r0, r1, s0, s1, s2, s3, s4, s5]) rfl ⟨ao, cp, aa, ca, rfl, (N3.out.only hO hz).ns, (HAT.out.row.only hO hz).prs rfl, K3.out.b.trans (hO.below (B := w.heap.size) (fun i hi => by rcases hi with hi | hi <;> omega) K3.out.b.size)⟩
/-- solo.Do. -/
theorem sdo_any (t : Int) (a : Option Addr) (cap : Nat) (N : List Nd) (h l cc u m h' l' c' u' m' : Int) (o : OpD) (how : o.wf) (w : World) (hN : Ns w a cap N) (hsm : Small N) (s : Sh) (hT : Tr N s t)
    (hle : N.length ≤ 1996) (hP : (allP N s.lvs).length ≤ 1099998) (hC : Cl h l cc u m h' l' c' u' m') (Q : List Nd) (hD : DoS N s h' l' c' u' m' o Q) :
    Calls Try.prog 17 #[trv t a cap N, polv h l cc u m, opv o.c o.k o.h o.v] w (SoIs w Q (doA (allP N s.lvs) o.c o.k o.h)) :=
  sdo_yes t a cap N h l cc u m h' l' c' u' m' o how w hN hsm s hT hle hP hC Q hD
end Go.Proofs.Ytijepfabkalcoaa

namespace Go.Proofs.Ytijepfabkalcoaa
open Go.RowKit
set_option linter.all false
set_option maxRecDepth 20000

def aw0 : List Nd := [⟨false, 0, 0, 0, [], 0⟩]
def aw1 : List Nd := [⟨false, 0, 0, 0, [(1, 0)], 1⟩]
def aw2 : List Nd := [⟨true, 2, 1, 2, [], 0⟩, ⟨false, 0, 0, 0, [(1, 0)], 0⟩, ⟨false, 0, 0, 0, [(2, 3)], 0⟩]
def awf (i : Nat) : List Nd := match i with | 0 => aw0 | 1 => aw1 | _ => aw2
theorem tr_lf (p : List Pr) (st : Int) (hp : Srt p) (h1 : -1000000 ≤ st) (h2 : st ≤ 1000000) : Tr [⟨false, 0, 0, 0, p, st⟩] (.lf 0) 0 :=
  ⟨by simp, ⟨rfl, _, rfl, rfl, rfl, rfl, rfl, h1, h2, hp, fun q _ => inS_any q.1⟩, by simp [Sh.pre], by simp [Sh.pre]⟩
theorem aw_t0 : Tr aw0 (.lf 0) 0 := tr_lf [] 0 Srt.nil (by decide) (by decide)
theorem aw_t1 : Tr aw1 (.lf 0) 0 := tr_lf [(1, 0)] 1 (by simp [Srt]) (by decide) (by decide)
theorem aw_d1 : doP [] 1 1 0 = [(1, 0)] := by decide
theorem aw_d2 : doP [(1, 0)] 1 2 3 = [(1, 0), (2, 3)] := by decide
theorem aw_s1 : DoS aw0 (.lf 0) 1 (-1) 2 (-1) 3 ⟨1, 1, 0, 0⟩ aw1 := by
  refine .inl ⟨⟨by decide, by decide⟩, .inl ⟨by decide, 0, ?_⟩⟩
  show BndO [⟨false, 0, 0, 0, doP [] 1 1 0, nx 2 (-1) 3 0 2⟩] 0 0 (dc 1 (-1)) 0 aw1
  rw [aw_d1, show nx 2 (-1) 3 0 2 = 1 by decide]
  exact .inl ⟨.lf 0, 0, ⟨aw_t1, rfl, by simp [Sh.lvs]⟩, .inr (.inr ⟨rfl, rfl, .inr (.inr (by decide))⟩)⟩
theorem aw_sp : Srt ([(1, 0), (2, 3)] : List Pr) := by simp [Srt]
theorem aw_s2 : DoS aw1 (.lf 0) 1 (-1) 2 (-1) 3 ⟨1, 2, 0, 3⟩ aw2 := by
  refine .inl ⟨⟨by decide, by decide⟩, .inl ⟨by decide, 1, ?_⟩⟩
  show BndO [⟨false, 0, 0, 0, doP [(1, 0)] 1 2 3, nx 2 (-1) 3 1 2⟩] 0 0 (dc 1 (-1)) 1 aw2
  rw [aw_d2, show nx 2 (-1) 3 1 2 = 2 by decide]
  have hA : LfAt [⟨false, 0, 0, 0, [(1, 0), (2, 3)], 2⟩] 0 0 (.lf 0) 0 := ⟨tr_lf _ _ aw_sp (by decide) (by decide), rfl, by simp [Sh.lvs]⟩
  exact .inl ⟨.lf 0, 0, hA, .inl ⟨by decide, .inl ⟨rfl, .lf 0, 0, hA, by decide, by decide, rfl⟩, rfl⟩⟩
theorem aw_t2 : Tr aw2 (.rt 0 (.lf 1) (.lf 2)) 0 := by
  have hA : LfAt [⟨false, 0, 0, 0, [(1, 0), (2, 3)], 2⟩] 0 0 (.lf 0) 0 := ⟨tr_lf _ _ aw_sp (by decide) (by decide), rfl, by simp [Sh.lvs]⟩
  obtain ⟨s, i, s', h1, _, h3, h4, h5, _⟩ := SplO.is (N := [⟨false, 0, 0, 0, [(1, 0), (2, 3)], 2⟩]) (t := 0) (y := 0) (Q := aw2) (.inl ⟨rfl, .lf 0, 0, hA, by decide, by decide, rfl⟩)
  obtain ⟨rfl, rfl⟩ := LfAt.uniq h1 hA
  rw [h4] at h5
  exact h5
theorem aw_s3 : DoS aw2 (.rt 0 (.lf 1) (.lf 2)) 1 (-1) 2 (-1) 3 ⟨4, 2, 0, 0⟩ aw2 :=
  .inl ⟨⟨by decide, by decide⟩, .inr (.inr ⟨by decide, by decide, rfl⟩)⟩
theorem aw_chn : Chn 1 (-1) 2 (-1) 3 [⟨1, 1, 0, 0⟩, ⟨1, 2, 0, 3⟩, ⟨4, 2, 0, 0⟩] awf := fun i o hi => by
  match i, hi with
  | 0, hi => simp at hi; subst hi; exact ⟨_, aw_t0, aw_s1⟩
  | 1, hi => simp at hi; subst hi; exact ⟨_, aw_t1, aw_s2⟩
  | 2, hi => simp at hi; subst hi; exact ⟨_, aw_t2, aw_s3⟩
theorem aw_a : runA [] [⟨1, 1, 0, 0⟩, ⟨1, 2, 0, 3⟩, ⟨4, 2, 0, 0⟩] = [⟨0, false, 0, 0, 0, []⟩, ⟨0, false, 0, 0, 0, []⟩, ⟨0, true, 2, 3, 0, []⟩] := by
  unfold runA runA runA runA
  rw [aw_d1, aw_d2]
  rfl
theorem aw_tch : tchO aw2 (.rt 0 (.lf 1) (.lf 2)) 5 0 9 = [1, 2] := by decide
theorem ops3' (w : World) (o p r : OpD) (h : o.wf) (h2 : p.wf) (h3 : r.wf) : Ops (w.alloc (.cells #[.int .i64 o.c, .int .i64 o.k, .int .i64 o.h, .int .i64 o.v, .int .i64 p.c, .int .i64 p.k, .int .i64 p.h, .int .i64 p.v, .int .i64 r.c, .int .i64 r.k, .int .i64 r.h, .int .i64 r.v] 28)) (some ⟨w.heap.size, 0, none⟩) 3 [o, p, r] :=
  ⟨Nat.le_refl _, by unfold maxLen; omega, fun n q hq => by
    match n, hq with
    | 0, hq => simp at hq; subst hq; exact ⟨_, _, rfl, by simp, by simp, by simp, by simp⟩
    | 1, hq => simp at hq; subst hq; exact ⟨_, _, rfl, by simp, by simp, by simp, by simp⟩
    | 2, hq => simp at hq; subst hq; exact ⟨_, _, rfl, by simp, by simp, by simp, by simp⟩, fun q hq => by
    simp at hq
    rcases hq with rfl | rfl | rfl <;> assumption⟩
theorem aw_wf1 : OpD.wf ⟨1, 1, 0, 0⟩ := ⟨by decide, by decide, by decide, by decide⟩
theorem aw_wf2 : OpD.wf ⟨1, 2, 0, 3⟩ := ⟨by decide, by decide, by decide, by decide⟩
theorem aw_wf3 : OpD.wf ⟨4, 2, 0, 0⟩ := ⟨by decide, by decide, by decide, by decide⟩
theorem aw_run (W : World) (a oa : Option Addr) (cp ocap : Nat) (hN : Ns W a cp (oneN [])) (hz : Ops W oa ocap [⟨1, 1, 0, 0⟩, ⟨1, 2, 0, 3⟩, ⟨4, 2, 0, 0⟩]) :
    Calls Try.prog 39 #[.agg #[.int .i64 0, .slice a 1 cp], .agg #[.int .i64 1, .int .i64 (-1), .int .i64 2, .int .i64 (-1), .int .i64 3], .slice oa 3 ocap] W (RnIs W aw2 [⟨0, false, 0, 0, 0, []⟩, ⟨0, false, 0, 0, 0, []⟩, ⟨0, true, 2, 3, 0, []⟩]) := by
  have h := srun_any 0 a cp (oneN []) 1 (-1) 2 (-1) 3 1 (-1) 2 (-1) 3 oa ocap [⟨1, 1, 0, 0⟩, ⟨1, 2, 0, 3⟩, ⟨4, 2, 0, 0⟩] W hN ⟨by simp [oneN], fun n hn => by simp [oneN] at hn; rw [hn]; simp⟩ (.lf 0) aw_t0 hz (by simp [oneN]) (by simp [allP, Sh.lvs, oneN, nd]) (by decide) awf rfl aw_chn
  have e : allP (oneN []) (Sh.lf 0).lvs = [] := by simp [allP, Sh.lvs, oneN, nd]
  rw [e, aw_a] at h
  exact h
theorem aw_t (W : World) (a : Option Addr) (cp : Nat) (hN : Ns W a cp aw2) :
    Calls Try.prog 16 #[.agg #[.int .i64 0, .slice a 3 cp], .agg #[.int .i64 5, .int .i64 0, .int .i64 9, .int .i64 0]] W (LvW W [1, 2]) := by
  have h := stch_any 0 a cp aw2 5 0 9 0 W hN ⟨by decide, fun n hn => by simp [aw2] at hn; rcases hn with rfl | rfl | rfl <;> simp⟩ _ aw_t2
  rw [aw_tch] at h
  exact h
set_option maxRecDepth 100000 in
set_option maxHeartbeats 6400000 in
theorem sawake_any (w : World) : Calls Try.prog 14 #[] w fun e w' => e = .returned (.bool true) ∧ Below w.heap.size w w' := by
  have co := tone_any none 0 [] w (Prs.nil _) (by simp) [] (by simp)
  unfold TnIs at co
  have l1 : (oneN []).length = 1 := rfl
  simp only [l1, List.length_nil] at co
  have hz := fun W => ops3' W ⟨1, 1, 0, 0⟩ ⟨1, 2, 0, 3⟩ ⟨4, 2, 0, 0⟩ aw_wf1 aw_wf2 aw_wf3
  have cr := fun (W : World) (a oa : Option Addr) (cp ocap : Nat) => aw_run W a oa cp ocap
  unfold RnIs at cr
  have ct := fun (W : World) (a : Option Addr) (cp : Nat) => aw_t W a cp
  unfold LvW at ct
  have l3 : aw2.length = 3 := rfl
  simp only [l3] at cr
  go_enter Try.func14, Try.ntmps14
  go_wp2_with (first
    | (go_at_call 40; ((with_reducible refine co.mono ?_); clear co; rintro e w1 ⟨a1, c1, rfl, hn1, hb1⟩; have N1 := Lib.hid hn1; have B1 := Lib.hid hb1; clear hn1 hb1))
    | (go_at_call 41; ((with_reducible refine (eager_any _).mono ?_); rintro e w2 ⟨rfl, hb2⟩; have N2 := Lib.hid ((N1.out.keep hb2).keep (al1 (.cells #[.int .i64 1, .int .i64 1, .int .i64 0, .int .i64 0, .int .i64 1, .int .i64 2, .int .i64 0, .int .i64 3, .int .i64 4, .int .i64 2, .int .i64 0, .int .i64 0] 28))); have B2 := Lib.hid (bel1 (bel2 B1.out hb2) (.cells #[.int .i64 1, .int .i64 1, .int .i64 0, .int .i64 0, .int .i64 1, .int .i64 2, .int .i64 0, .int .i64 3, .int .i64 4, .int .i64 2, .int .i64 0, .int .i64 0] 28)); clear hb2))
    | (go_at_call 39; ((with_reducible refine (cr _ _ _ _ _ N2.out (hz _)).mono ?_); clear cr; rintro e w3 ⟨a3, c3, g, rfl, hn, htr, -, hb3⟩; have N3 := Lib.hid (hn.ns.keep (al1 (.cells #[.int .i64 0, .slice a3 3 c3] 24))); have U3 := Lib.hid (Bk.new w3 #[.int .i64 0, .slice a3 3 c3] 24); obtain ⟨aa, ca, hat⟩ := (htr.below (al1 (.cells #[.int .i64 0, .slice a3 3 c3] 24))).at_ 2 _ rfl (by decide); have x3 := hat.c3; have B3 := Lib.hid (bel1 (bel2 B2.out hb3) (.cells #[.int .i64 0, .slice a3 3 c3] 24)); have u0 := U3.out.at_ 0 _ rfl; have u1 := U3.out.at_ 1 _ rfl; clear hn htr hb3 hat))
    | (go_at_call 16; ((with_reducible refine (ct _ _ _ N3.out).mono ?_); clear ct; rintro e w4 ⟨al, cl, rfl, -, -, hb4⟩))
    | fail)
  go_ret
  exact ⟨rfl, bel2 B3.out hb4⟩
end Go.Proofs.Ytijepfabkalcoaa

namespace Go.Proofs.Ytijepfabkalcoaa
open Go.RowKit
set_option linter.all false

structure OB (w : World) (t : Int) (a : Option Addr) (n cap : Nat) (h l cc u m c k hi v : Int) (W : World) : Prop where
  g : Bk W w.heap.size [.int .i64 t, .slice a n cap]
  p : Bk W (w.heap.size + 1) [.int .i64 h, .int .i64 l, .int .i64 cc, .int .i64 u, .int .i64 m]
  o : Bk W (w.heap.size + 1 + 1) [.int .i64 c, .int .i64 k, .int .i64 hi, .int .i64 v]
  b : Below w.heap.size w W
theorem OB.keep {w : World} {t : Int} {a : Option Addr} {n cap : Nat} {h l cc u m c k hi v : Int} {W W' : World} (H : OB w t a n cap h l cc u m c k hi v W) (hb : Below W.heap.size W W') : OB w t a n cap h l cc u m c k hi v W' := ⟨H.g.keep hb, H.p.keep hb, H.o.keep hb, bel2 H.b hb⟩
theorem OB.new (w : World) (t : Int) (a : Option Addr) (n cap : Nat) (h l cc u m c k hi v : Int) : OB w t a n cap h l cc u m c k hi v (((w.alloc (.cells #[.int .i64 t, .slice a n cap] 24)).alloc (.cells #[.int .i64 h, .int .i64 l, .int .i64 cc, .int .i64 u, .int .i64 m] 26)).alloc (.cells #[.int .i64 c, .int .i64 k, .int .i64 hi, .int .i64 v] 28)) := by
  refine ⟨((Bk.new w _ _).past _).past _, ?_, ?_, bel1 (bel1 (al1 _) _) _⟩
  · have h := (Bk.new (w.alloc (.cells #[.int .i64 t, .slice a n cap] 24)) #[.int .i64 h, .int .i64 l, .int .i64 cc, .int .i64 u, .int .i64 m] 26).past (.cells #[.int .i64 c, .int .i64 k, .int .i64 hi, .int .i64 v] 28)
    simp only [World.size_alloc] at h; exact h
  · have h := Bk.new ((w.alloc (.cells #[.int .i64 t, .slice a n cap] 24)).alloc (.cells #[.int .i64 h, .int .i64 l, .int .i64 cc, .int .i64 u, .int .i64 m] 26)) #[.int .i64 c, .int .i64 k, .int .i64 hi, .int .i64 v] 28
    simp only [World.size_alloc] at h; exact h
end Go.Proofs.Ytijepfabkalcoaa
