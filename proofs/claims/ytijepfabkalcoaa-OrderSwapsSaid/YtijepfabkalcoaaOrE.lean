/- osierref18.Calls exactly. No condition: lemmas. -/
import Derived.Test.YtijepfabkalcoaaPaD
namespace Go.Proofs.Ytijepfabkalcoaa
open Go.RowKit
set_option linter.all false
set_option maxRecDepth 20000

theorem stp_inv {s s' : Mt} {n : Nat} {e : EvD} (h : stp s n e = some s') : okT e.t ∧ ((s.rets e ∧ s' = s.ret n e) ∨ (s.begs e ∧ s' = s.beg n e)) := by
  unfold stp at h
  by_cases h1 : okT e.t
  · rw [if_pos h1] at h
    by_cases h2 : s.rets e
    · rw [if_pos h2] at h; cases h; exact ⟨h1, .inl ⟨h2, rfl⟩⟩
    · rw [if_neg h2] at h
      by_cases h3 : s.begs e
      · rw [if_pos h3] at h; cases h; exact ⟨h1, .inr ⟨h3, rfl⟩⟩
      · rw [if_neg h3] at h; cases h
  · rw [if_neg h1] at h; cases h
/-- The loop of osierref18.Calls. -/
structure KL (w0 : World) (N : List EvD) (n : Nat) (s : Mt) (ao : Option Addr) (cap : Nat) (M : List RC) (W : World) : Prop where
  m : mtc N n = some s
  row : CRow W (fun _ => False) (.slice ao M.length cap) M
  l : M.map (fun m => m.n) = s.l
  own : ∀ k, (Value.slice ao M.length cap).ownBlock = some k → w0.heap.size ≤ k
  be : Below w0.heap.size w0 W
theorem KL.keep {w0 W W' : World} {N : List EvD} {n : Nat} {s : Mt} {ao : Option Addr} {cap : Nat} {M : List RC} (h : KL w0 N n s ao cap M W) (hb : Below W.heap.size W W') : KL w0 N n s ao cap M W' :=
  ⟨h.m, h.row.keep hb, h.l, h.own, pb2 h.be hb⟩
theorem KL.len {w0 W : World} {N : List EvD} {n : Nat} {s : Mt} {ao : Option Addr} {cap : Nat} {M : List RC} (h : KL w0 N n s ao cap M W) : M.length = s.l.length := by rw [← h.l, List.length_map]
theorem KL.at {w0 W : World} {N : List EvD} {n : Nat} {s : Mt} {ao : Option Addr} {cap : Nat} {M : List RC} (h : KL w0 N n s ao cap M W) {t : Int} (ht : okT t) (h0 : 0 < s.x t) :
    ∃ (g i : Nat) (m : RC), ao = some ⟨g, 0, none⟩ ∧ s.x t = i + 1 ∧ M[i]? = some m ∧ m.n = s.c (i + 1) ∧ m.n.t = t ∧ i < M.length ∧ w0.heap.size ≤ g ∧ (∀ j q, i < j → M[j]? = some q → ¬ q.n.t = t) := by
  have I := minv N n s h.m
  rcases I.wt t ht with ⟨a, _⟩ | ⟨i, c, h1, h2, h3, h4, h5⟩
  · omega
  have hl := h.l
  have hi := (List.getElem?_eq_some_iff.1 h2).1
  have hi' : i < M.length := by rw [h.len]; exact hi
  have e : ∀ (j : Nat) (q : RC), M[j]? = some q → s.l[j]? = some q.n := fun j q hq => by
    rw [← hl, List.getElem?_map, hq]; rfl
  obtain ⟨m, hm⟩ : ∃ m, M[i]? = some m := ⟨_, List.getElem?_eq_getElem hi'⟩
  have em : m.n = c := by have := e i m hm; rw [h2] at this; cases this; rfl
  obtain ⟨g, rfl, _, _, _⟩ := h.row.at hm
  refine ⟨g, i, m, rfl, h1, hm, by rw [c_at h2, em], by rw [em]; exact h3, hi', h.own g rfl, fun j q hj hq hqt => ?_⟩
  have := (I.ord i j c q.n hj h2 (e j q hq)).2 (by rw [h3, hqt])
  omega
theorem KL.beg {w0 W W' : World} {N : List EvD} {n : Nat} {s : Mt} {ao bo : Option Addr} {cap bc : Nat} {M : List RC} {t : Int} {op : OpD} (h : KL w0 N n s ao cap M W)
    (hr : CRow W' (fun _ => False) (.slice bo (M.length + 1) bc) (M ++ [⟨⟨t, (n : Int), -1, op, zAd⟩, none, 0⟩])) (hk : ∀ k, (Value.slice bo (M.length + 1) bc).ownBlock = some k → (Value.slice ao M.length cap).ownBlock = some k ∨ W.heap.size ≤ k)
    (ho : Only (fun k => (Value.slice ao M.length cap).ownBlock = some k) W W') (e : EvD) (he : e.t = t) (heo : e.o = op) (hm : mtc N (n + 1) = some (s.beg n e)) :
    KL w0 N (n + 1) (s.beg n e) bo bc (M ++ [⟨⟨t, (n : Int), -1, op, zAd⟩, none, 0⟩]) W' := by
  refine ⟨hm, by simpa using hr, ?_, ?_, h.be.trans (ho.below (fun i hi => h.own i hi) h.be.size)⟩
  · rw [List.map_append, h.l]; subst heo; subst he; rfl
  · intro k hk'
    rw [List.length_append, List.length_singleton] at hk'
    rcases hk k hk' with x | x
    · exact h.own k x
    · have := h.be.size; omega
theorem KL.ret {w0 W W' : World} {N : List EvD} {n : Nat} {s : Mt} {g : Nat} {cap i : Nat} {M : List RC} {c : ClD} {pa0 : Option Addr} {pc0 : Nat} (h : KL w0 N n s (some ⟨g, 0, none⟩) cap M W)
    (hm : M[i]? = some ⟨c, pa0, pc0⟩) (e : EvD) (hx : s.x e.t = i + 1) (hc : s.c (i + 1) = c) (pa : Option Addr) (pc : Nat) (hmt : mtc N (n + 1) = some (s.ret n e)) (hgg : w0.heap.size ≤ g)
    (hr : CRow W' (fun _ => False) (.slice (some ⟨g, 0, none⟩) M.length cap) (M.set i ⟨{ c with g := (n : Int), a := e.a }, pa, pc⟩)) (ho : Only (fun k => k = g) W W') :
    KL w0 N (n + 1) (s.ret n e) (some ⟨g, 0, none⟩) cap (M.set i ⟨{ c with g := (n : Int), a := e.a }, pa, pc⟩) W' := by
  refine ⟨hmt, by rw [List.length_set]; exact hr, ?_, fun k hk => by simp [Value.ownBlock] at hk; omega, h.be.trans (ho.below (fun j hj => by have e2 : j = g := hj; omega) h.be.size)⟩
  unfold Mt.ret; rw [hx, hc, Nat.add_sub_cancel, List.map_set, h.l]

set_option maxRecDepth 100000 in
set_option maxHeartbeats 25600000 in
theorem rcalls_any (a : Option Addr) (cap : Nat) (N : List EvD) (w : World) (hN : Es w a cap N) (hl : N.length ≤ 300) (L : List ClD) (hL : callsL N = L) :
    Calls Try.prog 33 #[.slice a N.length cap] w (CsIs w L) := by
  have cm := rmaypast_any a cap N w hN hl
  unfold callsL at hL
  have HN := Lib.hid hN
  have z1 := hN.1
  have z2 := hN.2.1
  unfold maxLen at z2
  clear hN
  cases hm : mtch N with
  | none =>
    rw [hm] at hL cm
    obtain rfl : L = [] := hL.symm
    have cm1 := cm
    simp only [Option.isSome_none] at cm1
    clear hm hL cm
    go_enter Try.func33, Try.ntmps33
    go_wp2_with (go_at_call 22; ((with_reducible refine cm1.mono ?_); clear cm1; rintro e w2 ⟨rfl, hb2⟩))
    go_ret
    exact ⟨none, 0, by simp, Cs.none _, hb2⟩
  | some s0 =>
    rw [hm] at cm
    have cm1 := cm
    simp only [Option.isSome_some] at cm1
    rw [hm] at hL
    dsimp only at hL
    have HM0 := Lib.hid hm
    have HL := Lib.hid hL
    clear hm hL cm
    go_enter Try.func33, Try.ntmps33
    go_wp2_with (go_at_call 22; ((with_reducible refine cm1.mono ?_); clear cm1; rintro e w2 ⟨rfl, hb2⟩))
    have HB2 := Lib.hid hb2
    clear hb2
    go_loopw [12, 3] (fun i x wr => ∃ (n : Nat) (s : Mt) (ao : Option Addr) (lc : Nat) (M : List RC), n ≤ N.length ∧ i = .int .i64 n ∧ x = .slice ao M.length lc ∧ KL w N n s ao lc M wr) (fun i _ _ => N.length - (intOf i).toNat)
    case atStart => exact ⟨0, Mt.z, none, 0, [], Nat.zero_le _, rfl, rfl, ⟨rfl, CRow.nil _ _, rfl, fun k hk => by simp [Value.ownBlock] at hk, HB2.out⟩⟩
    case round =>
      obtain ⟨n, s, lo, lc, M, hn, rfl, rfl, hKL⟩ := hrel
      by_cases hlt : n < N.length
      rotate_left
      · obtain rfl : n = N.length := by omega
        have HKL := Lib.hid hKL
        clear hKL
        go_wp2_with (fail)
        go_ret
        have h1 : s0 = s := by have h2 := HKL.out.m; have h3 := HM0.out; unfold mtch at h3; rw [h2] at h3; cases h3; rfl
        have h4 := HKL.out.row.cs
        have h5 := HKL.out.l
        rw [h5, ← h1, HL.out] at h4
        exact ⟨lo, lc, by rw [h4.1, ← HL.out, h1, ← h5, List.length_map]; simp, h4.2, HKL.out.be⟩
      obtain ⟨x, hx⟩ : ∃ x, N[n]? = some x := ⟨_, List.getElem?_eq_getElem hlt⟩
      obtain ⟨b, oo, pa, pc, rfl, hx0⟩ := HN.out.2.2 n x hx
      have hx1 := hx0.keep hKL.be
      have HP0 := Lib.hid hx0.ps
      have hgx : N.getD n zEv = x := by rw [List.getD_eq_getElem?_getD, hx]; rfl
      have hn0 : (0 : Int) ≤ (n : Int) := by omega
      have hnl : (n : Int) < (N.length : Int) := by omega
      obtain ⟨e0, e1, e2, e3, e4, e5, e6, e7, e8, e9, e10, e11⟩ := hx1.ex
      have hps := hx1.ps
      obtain ⟨s', hs'⟩ := mtc_some HM0.out (n + 1) (by omega)
      have hst : stp s n x = some s' := by rw [mtc_succ, hKL.m] at hs'; simp only [Option.bind_some] at hs'; rw [hgx] at hs'; exact hs'
      obtain ⟨hT, hstp⟩ := stp_inv hst
      have hI := minv N n s hKL.m
      have hMl : M.length ≤ n := by rw [hKL.len, hI.nb]; exact (cnt_le N n).1
      have HX := Lib.hid hx
      clear hx hx0 hgx hst
      obtain ⟨t, r, ⟨oc, ok, oh, ov⟩, ⟨ae, ao, ak, av, an, ap⟩⟩ := x
      dsimp only at e0 e1 e2 e3 e4 e5 e6 e7 e8 e9 e10 e11 hT hps
      obtain ⟨tn, rfl⟩ : ∃ k : Nat, t = (k : Int) := ⟨t.toNat, by unfold okT at hT; omega⟩
      cases r
      · -- a call
        obtain ⟨hbg, rfl⟩ : s.begs ⟨(tn : Int), false, ⟨oc, ok, oh, ov⟩, ⟨ae, ao, ak, av, an, ap⟩⟩ ∧ s' = s.beg n ⟨(tn : Int), false, ⟨oc, ok, oh, ov⟩, ⟨ae, ao, ak, av, an, ap⟩⟩ := by
          rcases hstp with ⟨h, _⟩ | h
          · cases h.1
          · exact h
        have hML2 := hKL.keep (pal (.cells #[.int .i64 (tn : Int), .bool false, .int .i64 oc, .int .i64 ok, .int .i64 oh, .int .i64 ov, .int .i64 ae, .bool ao, .int .i64 ak, .int .i64 av, .int .i64 an, .slice pa ap.length pc] 62))
        have HLO := Lib.hid (show ∀ k, (Value.slice lo M.length lc).ownBlock = some k → k < wr.heap.size from fun k hk => (hKL.row.row.lt k hk).2)
        have HML := Lib.hid hML2
        have HEB := Lib.hid (Bq.new wr #[.int .i64 (tn : Int), .bool false, .int .i64 oc, .int .i64 ok, .int .i64 oh, .int .i64 ov, .int .i64 ae, .bool ao, .int .i64 ak, .int .i64 av, .int .i64 an, .slice pa ap.length pc] 62)
        have HY := Lib.hid hs'
        have HLT := Lib.hid hlt
        have hMl2 : M.length ≤ 100000 := by omega
        clear hx1 hps hKL hML2 hT hI hs' hstp hbg hlt
        go_wp2_with (first
          | (at_builtin; refine wpList_pushc rfl _ (.tmp 27) rfl (fun _ => False) (.slice lo M.length lc) M (tn : Int) (n : Int) ⟨oc, ok, oh, ov⟩ rfl HML.out.row (fun k hk => hk.elim) _ rfl (by simp) hMl2 ?_; intro ao5 cp5 w5 hm5 hc5 hR5 hK5 hO5; have HR5 := Lib.hid (And.intro hR5 (And.intro hK5 hO5)); clear hR5 hK5 hO5; unfold maxLen at hm5)
          | fail)
        go_roundw
        case rel => exact ⟨n + 1, _, ao5, cp5, _, by have := HLT.out; omega, by go_num, by rw [List.length_append]; rfl, HML.out.beg HR5.out.1 HR5.out.2.1 HR5.out.2.2 _ rfl rfl HY.out⟩
        case measure => have := HLT.out; simp [intOf]; omega
      · -- a return
        obtain ⟨w5, rfl⟩ : ∃ w5, w5 = wr := ⟨_, rfl⟩
        obtain ⟨hrt, rfl⟩ : s.rets ⟨(tn : Int), true, ⟨oc, ok, oh, ov⟩, ⟨ae, ao, ak, av, an, ap⟩⟩ ∧ s' = s.ret n ⟨(tn : Int), true, ⟨oc, ok, oh, ov⟩, ⟨ae, ao, ak, av, an, ap⟩⟩ := by
          rcases hstp with h | ⟨h, _⟩
          · exact h
          · cases h.1
        obtain ⟨gl, i, m, rfl, hsx, hm, hmn, hmt, hiM, hgl, hoth⟩ := hKL.at hT hrt.2.1
        have hML2 := hKL.keep (pal (.cells #[.int .i64 (tn : Int), .bool true, .int .i64 oc, .int .i64 ok, .int .i64 oh, .int .i64 ov, .int .i64 ae, .bool ao, .int .i64 ak, .int .i64 av, .int .i64 an, .slice pa ap.length pc] 62))
        have HEB := Lib.hid (Bq.new w5 #[.int .i64 (tn : Int), .bool true, .int .i64 oc, .int .i64 ok, .int .i64 oh, .int .i64 ov, .int .i64 ae, .bool ao, .int .i64 ak, .int .i64 av, .int .i64 an, .slice pa ap.length pc] 62)
        have HLO := Lib.hid (show gl < w5.heap.size from (hKL.row.row.lt gl rfl).2)
        have HPS := Lib.hid (hps.below (pal (w := w5) (.cells #[.int .i64 (tn : Int), .bool true, .int .i64 oc, .int .i64 ok, .int .i64 oh, .int .i64 ov, .int .i64 ae, .bool ao, .int .i64 ak, .int .i64 av, .int .i64 an, .slice pa ap.length pc] 62)))
        have HPW := Lib.hid hps
        have HML := Lib.hid hML2
        have HY := Lib.hid hs'
        have HLT := Lib.hid hlt
        have HM := Lib.hid hm
        have HMN := Lib.hid hmn
        have HMT := Lib.hid hmt
        have HSX := Lib.hid hsx
        have HGL := Lib.hid hgl
        have HOT := Lib.hid hoth
        have hw1 : wrap64 ((M.length : Int) - 1) = (M.length : Int) - 1 := by unfold wrap64; omega
        clear hx1 hps hKL hML2 hT hI hs' hstp hrt hm hmn hmt hsx hgl hoth hlt
        have hM1 : 1 ≤ M.length := by omega
        go_wp2_with (fail)
        clear hw1 e0 e1 e2 e3 e4 e5 e6 e7 e8 e9 e10 e11
        generalize w5.alloc (.cells #[.int .i64 (tn : Int), .bool true, .int .i64 oc, .int .i64 ok, .int .i64 oh, .int .i64 ov, .int .i64 ae, .bool ao, .int .i64 ak, .int .i64 av, .int .i64 an, .slice pa ap.length pc] 62) = W2 at HML HEB HPS ⊢
        go_loopw [6] (fun x wq => ∃ z : Nat, i ≤ z ∧ z < M.length ∧ x = .int .i64 z ∧ Below W2.heap.size W2 wq) (fun x _ => (intOf x).toNat)
        case atStart => exact ⟨M.length - 1, by omega, by omega, by go_num, Below.refl _ _⟩
        case round =>
          obtain ⟨z, hiz, hzM, rfl, hbq⟩ := hrel
          have hbq2 := hbq
          have HBQ := Lib.hid hbq
          have HKQ := Lib.hid (HML.out.keep hbq)
          have HEQ := Lib.hid (HEB.out.keep hbq)
          have HPQ := Lib.hid (HPS.out.below hbq)
          obtain ⟨q, hq⟩ : ∃ q, M[z]? = some q := ⟨_, List.getElem?_eq_getElem hzM⟩
          obtain ⟨gl', e', -, hcq, hfz⟩ := HKQ.out.row.at hq
          cases e'
          obtain ⟨c0, c1, c2, c3, c4, c5, c6, c7, c8, c9, c10, c11, c12⟩ := hcq.ex
          have q0 := HEQ.out.at_ 0 _ rfl
          have hz0 : (0 : Int) ≤ (z : Int) := by omega
          have hzl : (z : Int) < (M.length : Int) := by omega
          have hzl2 : ¬ (M.length : Int) ≤ (z : Int) := by omega
          have hgw : ¬ gl = w5.heap.size := by have := HLO.out; omega
          have hgw2 : ¬ w5.heap.size = gl := fun e => hgw e.symm
          have hMl3 : M.length ≤ 300 := by have := HLT.out; omega
          by_cases hzi : z = i
          · subst hzi
            obtain rfl : m = q := by have h := HM.out; rw [hq] at h; cases h; rfl
            have hqt := HMT.out
            obtain ⟨⟨ct, cf, cg, ⟨dc, dk, dh, dv⟩, ⟨be, bo, bk, bv, bn, bp⟩⟩, qa, qc⟩ := m
            dsimp only at c0 c1 c2 c3 c4 c5 c6 c7 c8 c9 c10 c11 c12 hqt
            subst hqt
            have q6 := HEQ.out.at_ 6 _ rfl
            have q7 := HEQ.out.at_ 7 _ rfl
            have q8 := HEQ.out.at_ 8 _ rfl
            have q9 := HEQ.out.at_ 9 _ rfl
            have q10 := HEQ.out.at_ 10 _ rfl
            have q11 := HEQ.out.at_ 11 _ rfl
            have f2 := hfz (z * 13 + 2)
            have f7 := hfz (z * 13 + 7)
            have f8 := hfz (z * 13 + 8)
            have f9 := hfz (z * 13 + 9)
            have f10 := hfz (z * 13 + 10)
            have f11 := hfz (z * 13 + 11)
            have f12 := hfz (z * 13 + 12)
            have hw4 : IntKind.i64.wrap (z : Int) = (z : Int) := (wrapEqP _).trans (by unfold wrap64; omega)
            clear hq hcq hfz hbq hbq2
            go_wp2_with (fail)
            go_region
            go_wp2_with (fail)
            go_region
            have HF := Lib.hid (HKQ.out.row.toAns HM.out (n : Int) ⟨ae, ao, ak, av, an, ap⟩ pa pc HPQ.out (fun hp b' o' sp e => by
              have := plt HP0.out hp e
              have := HGL.out
              exact ⟨fun x => x, by omega⟩))
            have HRT := Lib.hid (HKQ.out.ret HM.out ⟨(tn : Int), true, ⟨oc, ok, oh, ov⟩, ⟨ae, ao, ak, av, an, ap⟩⟩ HSX.out HMN.out.symm pa pc HY.out HGL.out HF.out.1 HF.out.2)
            unfold W7 at HRT
            dsimp only at HRT
            clear c0 c1 c2 c3 c4 c5 c6 c7 c8 c9 c10 c11 c12 q0 q6 q7 q8 q9 q10 q11 f2 f7 f8 f9 f10 f11 f12 HF hw4
            rw [show z * 13 + 7 + 1 = z * 13 + 8 from rfl, show z * 13 + 7 + 2 = z * 13 + 9 from rfl, show z * 13 + 7 + 3 = z * 13 + 10 from rfl, show z * 13 + 7 + 4 = z * 13 + 11 from rfl, show z * 13 + 7 + 5 = z * 13 + 12 from rfl]
            have hgi : M.length = (M.set z ⟨⟨(tn : Int), cf, (n : Int), ⟨dc, dk, dh, dv⟩, ⟨ae, ao, ak, av, an, ap⟩⟩, pa, pc⟩).length := by rw [List.length_set]
            generalize ((((((((wr.setCell ⟨gl, z * 13 + 2, none⟩ (.int .i64 (n : Int))).setCell ⟨gl, z * 13 + 7, none⟩ (.int .i64 ae)).setCell ⟨gl, z * 13 + 8, none⟩ (.bool ao)).setCell ⟨gl, z * 13 + 9, none⟩ (.int .i64 ak)).setCell ⟨gl, z * 13 + 10, none⟩ (.int .i64 av)).setCell ⟨gl, z * 13 + 11, none⟩ (.int .i64 an)).setCell ⟨gl, z * 13 + 12, none⟩ (.slice pa ap.length pc))) = w6 at HRT ⊢
            go_wp2_with (fail)
            go_roundw
            case rel => exact ⟨n + 1, _, _, lc, _, by have := HLT.out; omega, by go_num, by rw [← hgi], HRT.out.keep (((Below.refl _ _).drew).drew)⟩
            case measure => have := HLT.out; simp [intOf]; omega
          · have hqt := HOT.out z q (by omega) hq
            obtain ⟨⟨ct, cf, cg, ⟨dc, dk, dh, dv⟩, ⟨be, bo, bk, bv, bn, bp⟩⟩, qa, qc⟩ := q
            dsimp only at c0 hqt
            have hqq : (ct == (tn : Int)) = false := by simpa using hqt
            have hw1 : wrap64 ((z : Int) - 1) = (z : Int) - 1 := by unfold wrap64; omega
            clear hq hcq hfz hbq2 hbq c1 c2 c3 c4 c5 c6 c7 c8 c9 c10 c11 c12
            have hw4 : IntKind.i64.wrap (z : Int) = (z : Int) := (wrapEqP _).trans (by unfold wrap64; omega)
            go_wp2_with (fail)
            go_region
            go_wp2_with (fail)
            clear hw4
            go_roundw
            case rel => exact ⟨z - 1, by omega, by omega, by go_num, (HBQ.out).drew⟩
            case measure => simp [intOf]; omega

end Go.Proofs.Ytijepfabkalcoaa
