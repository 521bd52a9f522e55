/- adapt.without exactly: a tree's nodes without two places. No condition: lemmas. -/
import Derived.Test.YteebceecohhegaaAeD
namespace Go.Proofs.Yteebceecohhegaa
open Go.RowKit
set_option linter.all false

/-- How many of them are below. -/
def cntB (G : List Nat) (v : Nat) : Nat := (G.filter (fun g => decide (g < v))).length
theorem cntB_take {G : List Nat} {v n g : Nat} (h : G[n]? = some g) : cntB (G.take (n + 1)) v = cntB (G.take n) v + if g < v then 1 else 0 := by
  unfold cntB
  rw [List.take_succ, h, List.filter_append, List.length_append]
  congr 1
  by_cases e : g < v
  · simp [e]
  · simp [e]
theorem cntB_le (G : List Nat) (v : Nat) : cntB G v ≤ G.length := List.length_filter_le ..
set_option maxRecDepth 100000 in
set_option maxHeartbeats 3200000 in
theorem moved_gen (G : List Nat) (ao : Option Addr) (c : Nat) (v : Nat) (q : Nat) (w : World) (hR : RI w ao c (preI G)) (hq : w.cell? ⟨q, 0, none⟩ = some (.slice ao G.length c)) (hv : v ≤ 100000) (hG : G.length ≤ 100000) :
    Calls Try.prog 63 #[.int .i64 (v : Int), .pointer (some ⟨q, 0, none⟩)] w fun e w' => e = .returned (.int .i64 ((v : Int) - (cntB G v : Int))) ∧ w' = w := by
  have HH := Lib.hid hR
  have hc1 := hR.1
  have hc2 := hR.2.1
  rw [preI_len] at hc1
  unfold maxLen at hc2
  clear hR
  go_enter Try.func63, Try.ntmps63
  go_wp2_with (fail)
  go_loopw [4, 10] (fun x i wr => ∃ n : Nat, n ≤ G.length ∧ i = .int .i64 n ∧ x = .int .i64 ((v : Int) - (cntB (G.take n) v : Int)) ∧ wr = w) (fun _ i _ => G.length - (intOf i).toNat)
  case atStart => exact ⟨0, Nat.zero_le _, rfl, by simp [cntB], rfl⟩
  case round =>
    obtain ⟨n, hn, rfl, rfl, rfl⟩ := hrel
    by_cases hlt : n < G.length
    · obtain ⟨g, hg⟩ : ∃ g, G[n]? = some g := ⟨_, List.getElem?_eq_getElem hlt⟩
      obtain ⟨b, o, rfl, c0⟩ := HH.out.2.2 n _ (preI_get hg)
      have HC := Lib.hid (cntB_take (v := v) hg)
      have hle := cntB_le (G.take n) v
      rw [List.length_take] at hle
      have hle2 : cntB (G.take n) v ≤ 100000 := by omega
      obtain ⟨k, hk⟩ : ∃ k, cntB (G.take n) v = k := ⟨_, rfl⟩
      rw [hk] at hle2 HC
      have HK := Lib.hid hk
      rw [hk]
      clear hg hle hk
      by_cases h1 : g < v
      · have h1' : (g : Int) < (v : Int) := by omega
        have hw : wrap64 ((v : Int) - (k : Int) - 1) = (v : Int) - (k : Int) - 1 := by unfold wrap64; omega
        go_wp2_with (fail)
        go_roundw
        case rel => exact ⟨n + 1, by omega, by go_num, by rw [HC.out, if_pos h1]; congr 1; omega, trivial⟩
        case measure => simp [intOf]; omega
      · have h1' : ¬ (g : Int) < (v : Int) := by omega
        go_wp2_with (fail)
        go_roundw
        case rel => exact ⟨n + 1, by omega, by go_num, by rw [HC.out, if_neg h1]; rfl, trivial⟩
        case measure => simp [intOf]; omega
    · obtain rfl : n = G.length := by omega
      rw [List.take_of_length_le (Nat.le_refl _)]
      go_wp2_with (fail)
      go_ret
      exact ⟨rfl, rfl⟩
theorem moved_any (i o : Nat) (ao : Option Addr) (c : Nat) (v : Nat) (q : Nat) (w : World) (hR : RI w ao c [(i : Int), (o : Int)]) (hq : w.cell? ⟨q, 0, none⟩ = some (.slice ao 2 c)) (hv : v ≤ 100000) (hio : i ≠ o) (x : Int) (hx : (v : Int) = x) (s : Nat) (hs : shf i o v = s) :
    Calls Try.prog 63 #[.int .i64 x, .pointer (some ⟨q, 0, none⟩)] w fun e w' => e = .returned (.int .i64 (s : Int)) ∧ w' = w := by
  subst hx hs
  refine (moved_gen [i, o] ao c v q w hR hq hv (by simp)).mono (fun e w' hh => ⟨?_, hh.2⟩)
  rw [hh.1]
  congr 2
  unfold cntB shf
  by_cases h1 : i < v
  · by_cases h2 : o < v
    · simp [h1, h2]; omega
    · simp [h1, h2]; omega
  · by_cases h2 : o < v
    · simp [h1, h2]; omega
    · simp [h1, h2]

theorem srcN_one {W : World} {g : Nat} {m : RN} (hB : Bk W g (cellN m)) (hp : Prs W m.a m.c m.n.p) : SrcN W (some ⟨g, 0, none⟩) 1 [m] :=
  ⟨.inr ⟨_, _, rfl, fun j u hj => by rw [add_lit, Nat.zero_add]; exact hB.at_ j u (by simpa [cellsN] using hj)⟩, fun x hx => by simp at hx; subst hx; exact hp⟩
theorem ct2_any (ao : Option Addr) (c : Nat) (x y z : Int) (w : World) (h : RI w ao c [x, y]) (B : Bool) (hB : B = true ↔ z ∈ [x, y]) :
    Calls Try.prog 57 #[.slice ao 2 c, .int .i64 z] w fun e w' => e = .returned (.bool B) ∧ w' = w := ctI_any ao c [x, y] z w h B hB
/-- What holds all along. -/
structure Wo (w : World) (tn : Nat) (a : Option Addr) (cap : Nat) (N : List Nd) (i o : Nat) (ga : Option Addr) (gc : Nat) (wr : World) (av : Option Addr) (cv : Nat) (M : List RN) (n : Nat) : Prop where
  m : M.map (fun m => m.n) = drp N i o n
  r : NdR w wr (.slice av M.length cv) M
  q : ∀ k, (Value.slice av M.length cv).ownBlock = some k → w.heap.size + 4 ≤ k
  g : Bk wr w.heap.size [.int .i64 (tn : Int), .slice a N.length cap]
  k : Bk wr (w.heap.size + 1) [.slice ga 2 gc]
  e : Rq wr (w.heap.size + 2)
  u : Tq wr (w.heap.size + 3) ((shf i o tn : Nat) : Int) av M.length cv
  b : Below w.heap.size w wr
section
variable {w : World} {tn : Nat} {a : Option Addr} {cap : Nat} {N : List Nd} {i o : Nat} {ga : Option Addr} {gc : Nat} {wr w' W9 w4 : World} {av : Option Addr} {cv : Nat} {M : List RN} {n : Nat}
theorem Wo.keep (h : Wo w tn a cap N i o ga gc wr av cv M n) (hb : Below wr.heap.size wr w') : Wo w tn a cap N i o ga gc w' av cv M n :=
  ⟨h.m, h.r.keep hb, h.q, h.g.keep hb, h.k.keep hb, h.e.keep hb, h.u.keep hb, bel2 h.b hb⟩
theorem Wo.no (h : Wo w tn a cap N i o ga gc wr av cv M n) (hn : n = i ∨ n = o) : Wo w tn a cap N i o ga gc wr av cv M (n + 1) :=
  ⟨by rw [drp_no hn]; exact h.m, h.r, h.q, h.g, h.k, h.e, h.u, h.b⟩
/-- One more node. -/
theorem Wo.next (h : Wo w tn a cap N i o ga gc wr av cv M n) (h1 : n ≠ i) (h2 : n ≠ o) {m : RN} (hm : m.n = fixn (shf i o) (nd N n)) (h9 : Below wr.heap.size wr W9) {a4 : Option Addr} {n4 c4 : Nat} (hn4 : n4 = M.length + 1)
    (hR : NdR w w4 (.slice a4 n4 c4) (M ++ [m])) (hO : Only (fun k => (Value.slice av M.length cv).ownBlock = some k) W9 w4) (hk : ∀ k, (Value.slice a4 n4 c4).ownBlock = some k → (Value.slice av M.length cv).ownBlock = some k ∨ W9.heap.size ≤ k) :
    Wo w tn a cap N i o ga gc (w4.setCell ⟨w.heap.size + 3, 1, none⟩ (.slice a4 n4 c4)) a4 c4 (M ++ [m]) (n + 1) := by
  have hq : ∀ k, (Value.slice av M.length cv).ownBlock = some k → w.heap.size + 4 ≤ k := h.q
  have hO2 : Only (fun k => k = w.heap.size + 3) w4 (w4.setCell ⟨w.heap.size + 3, 1, none⟩ (.slice a4 n4 c4)) := (Only.refl _ w4).setCell (S := fun k => k = w.heap.size + 3) (p := ⟨w.heap.size + 3, 1, none⟩) (.inl rfl) _
  have g4 := ((h.g.keep h9).only hO (fun e => by have := hq _ e; omega)).only hO2 (by show ¬ (_ = _); omega)
  have k4 := ((h.k.keep h9).only hO (fun e => by have := hq _ e; omega)).only hO2 (by show ¬ (_ = _); omega)
  have e4 := ((h.e.keep h9).only hO (fun e => by have := hq _ e; omega)).only hO2 (by show ¬ (_ = _); omega)
  have u3 := (h.u.keep h9).only hO (fun e => by have := hq _ e; omega)
  have ho : ∀ k, (Value.slice a4 n4 c4).ownBlock = some k → w.heap.size + 4 ≤ k := fun k hk' => by
    have := h.u.lt
    have := h9.size
    rcases hk k hk' with e | e
    · exact hq k e
    · omega
  have hll : (M ++ [m]).length = n4 := by rw [List.length_append, hn4]; rfl
  have hb : Below w.heap.size w (w4.setCell ⟨w.heap.size + 3, 1, none⟩ (.slice a4 n4 c4)) := by
    have b9 : Below w.heap.size w W9 := bel2 h.b h9
    have b4 : Below w.heap.size w w4 := b9.trans (hO.below (B := w.heap.size) (fun i hi => by have := hq i hi; omega) b9.size)
    exact b4.setCell (by show _ ≤ _ + 3; omega) _
  refine ⟨by rw [List.map_append, h.m, drp_yes h1 h2, ← hm]; rfl, ?_, by rw [hll]; exact ho, g4, k4, e4, by rw [hll]; exact u3.set1 _ _ _, hb⟩
  rw [hll]
  refine ⟨⟨?_, fun k _ hk => hk, fun x hx => ?_⟩, hR.own, hb⟩
  · exact hO2.row hR.r.row (fun k hk => by show ¬ (k = _); have := ho k hk; omega)
  · obtain ⟨p1, p2⟩ := hR.r.prs x hx
    exact ⟨u3.prs p1 _ _, p2⟩
end
set_option maxRecDepth 100000 in
set_option maxHeartbeats 6400000 in
theorem without_any (tn : Nat) (a : Option Addr) (cap : Nat) (N : List Nd) (i o : Nat) (ga : Option Addr) (gc : Nat) (w : World) (hN : Ns w a cap N) (hl : N.length ≤ 2000) (hR : RI w ga gc [(i : Int), (o : Int)]) (hio : i ≠ o) (ht : tn ≤ 2000)
    (hk : ∀ z < N.length, (nd N z).r = true → ∃ u v : Nat, (nd N z).a = u ∧ (nd N z).b = v ∧ u < 2000 ∧ v < 2000) :
    Calls Try.prog 38 #[trv (tn : Int) a cap N, .slice ga 2 gc] w (TnIs w ((shf i o tn : Nat) : Int) (drp N i o N.length)) := by
  have hc1 := hN.1
  have hc2 := hN.2.1
  unfold maxLen at hc2
  have b3 : Below w.heap.size w (((w.alloc (.cells #[.int .i64 (tn : Int), .slice a N.length cap] 24)).alloc (.cells #[.slice ga 2 gc] 38)).alloc (.cells #[.int .i64 0, .slice none 0 0] 24)) := bel1 (bel1 (al1 _) _) _
  have hq : (((w.alloc (.cells #[.int .i64 (tn : Int), .slice a N.length cap] 24)).alloc (.cells #[.slice ga 2 gc] 38)).alloc (.cells #[.int .i64 0, .slice none 0 0] 24)).cell? ⟨w.heap.size + 1, 0, none⟩ = some (.slice ga 2 gc) := by simp [go_sem]
  have cm := moved_any i o ga gc tn _ _ (hR.below b3) hq (by omega) hio (tn : Int) rfl _ rfl
  have C0 := Lib.hid (show Wo w tn a cap N i o ga gc ((((w.alloc (.cells #[.int .i64 (tn : Int), .slice a N.length cap] 24)).alloc (.cells #[.slice ga 2 gc] 38)).alloc (.cells #[.int .i64 0, .slice none 0 0] 24)).alloc (.cells #[.int .i64 ((shf i o tn : Nat) : Int), .slice none 0 0] 24)) none 0 [] 0 from
    ⟨rfl, ⟨NRow.nil _ _, fun k hk => by simp [Value.ownBlock] at hk, bel1 b3 _⟩, fun k hk => by simp [Value.ownBlock] at hk, ((Bk.new w #[.int .i64 (tn : Int), .slice a N.length cap] 24).past _).past _ |>.past _, by
      have h := ((Bk.new (w.alloc (.cells #[.int .i64 (tn : Int), .slice a N.length cap] 24)) #[.slice ga 2 gc] 38).past (.cells #[.int .i64 0, .slice none 0 0] 24)).past (.cells #[.int .i64 ((shf i o tn : Nat) : Int), .slice none 0 0] 24)
      simp only [World.size_alloc] at h; exact h, by
      have h := (Rq.new ((w.alloc (.cells #[.int .i64 (tn : Int), .slice a N.length cap] 24)).alloc (.cells #[.slice ga 2 gc] 38))).keep (al1 (.cells #[.int .i64 ((shf i o tn : Nat) : Int), .slice none 0 0] 24))
      simp only [World.size_alloc] at h; exact h, by
      have h := Tq.new (((w.alloc (.cells #[.int .i64 (tn : Int), .slice a N.length cap] 24)).alloc (.cells #[.slice ga 2 gc] 38)).alloc (.cells #[.int .i64 0, .slice none 0 0] 24)) ((shf i o tn : Nat) : Int) none 0 0
      simp only [World.size_alloc] at h; exact h, bel1 b3 _⟩)
  have HN := Lib.hid hN
  have HRI := Lib.hid hR
  have HIO := Lib.hid hio
  have HK := Lib.hid hk
  have HTN := Lib.hid ht
  unfold trv
  clear hN hR hio hk ht b3 hq
  go_enter Try.func38, Try.ntmps38
  go_wp2_with (go_at_call 63; ((with_reducible refine cm.mono ?_); clear cm; rintro e w3 ⟨rfl, rfl⟩))
  generalize (World.alloc _ _ : World) = W3 at C0 ⊢
  go_loopw [18] (fun j wr => ∃ (n : Nat) (av : Option Addr) (cv : Nat) (M : List RN), n ≤ N.length ∧ j = .int .i64 n ∧ Wo w tn a cap N i o ga gc wr av cv M n) (fun j _ => N.length - (intOf j).toNat)
  case atStart => exact ⟨0, none, 0, [], Nat.zero_le _, rfl, C0.out⟩
  case round =>
    obtain ⟨n, av, cv, M, hn, rfl, hC⟩ := hrel
    have HC := Lib.hid hC
    obtain ⟨_, _, e', hcv, hmv⟩ := hC.r.r.form
    injection e' with e1 e2 e3
    subst e3
    clear e1 e2
    by_cases hlt : n < N.length
    · obtain ⟨x, hx⟩ : ∃ x, N[n]? = some x := ⟨_, List.getElem?_eq_getElem hlt⟩
      obtain ⟨b, o', pa, pc, rfl, hx1⟩ := (HN.out.keep hC.b).2.2 n x hx
      have hn0 : (0 : Int) ≤ (n : Int) := by omega
      have hnl : (n : Int) < (N.length : Int) := by omega
      have HX := Lib.hid (nd_of hx)
      have HPS := Lib.hid hx1.ps
      have HKX := Lib.hid (HK.out n hlt)
      have HPW := Lib.hid (show Prs w pa pc x.p from by
        obtain ⟨b2, o2, pa2, pc2, e2, hx2⟩ := HN.out.2.2 n x hx
        cases e2
        have c4 := kc hC.b hx2.c4
        rw [hx1.c4] at c4
        cases c4
        exact hx2.ps)
      obtain ⟨e0, e1, e2, e3, e4, e5, -⟩ := hx1
      rw [HX.out] at HKX
      obtain ⟨r, k, l, bb, p, st⟩ := x
      dsimp only at e0 e1 e2 e3 e4 e5 HKX HPS HPW
      have B8 := Lib.hid (Bk.new wr #[.bool r, .int .i64 k, .int .i64 l, .int .i64 bb, .slice pa p.length pc, .int .i64 st] 47)
      have C8 := Lib.hid (hC.keep (al1 (.cells #[.bool r, .int .i64 k, .int .i64 l, .int .i64 bb, .slice pa p.length pc, .int .i64 st] 47)))
      have k0 := C8.out.k.at_ 0 _ rfl
      have cc := fun (B : Bool) (hB : B = true ↔ (n : Int) ∈ [(i : Int), (o : Int)]) => ct2_any ga gc (i : Int) (o : Int) (n : Int) _ (HRI.out.below C8.out.b) B hB
      clear hx hC
      by_cases hG : n = i ∨ n = o
      · have cc := cc true ⟨fun _ => by simp; omega, fun _ => rfl⟩
        have HG := Lib.hid hG
        clear hG
        go_wp2_with (go_at_call 57; ((with_reducible refine cc.mono ?_); clear cc; rintro e w2 ⟨rfl, rfl⟩))
        go_roundw
        case rel => exact ⟨n + 1, av, _, M, by omega, by go_num, C8.out.no HG.out⟩
        case measure => simp [intOf]; omega
      · have cc := cc false ⟨fun e => (by cases e), fun e => by simp at e; omega⟩
        have HG := Lib.hid (show n ≠ i ∧ n ≠ o from ⟨fun e => hG (.inl e), fun e => hG (.inr e)⟩)
        clear hG
        have HML := Lib.hid (show M.length ≤ 2000 by
          have h1 : M.length = (drp N i o n).length := by rw [← HC.out.m, List.length_map]
          rw [h1, drp_len HIO.out]
          unfold shf
          omega)
        have HNQ := Lib.hid (show ¬ ((Value.slice av M.length cv).ownBlock = some (w.heap.size + 3)) from fun e => by have := HC.out.q _ e; omega)
        cases r
        · have R9 := Lib.hid (C8.out.r.keep (al1 (.cells #[.bool false, .int .i64 k, .int .i64 l, .int .i64 bb, .slice pa p.length pc, .int .i64 st] 47)))
          have S9 := Lib.hid (show SrcN ((wr.alloc (.cells #[.bool false, .int .i64 k, .int .i64 l, .int .i64 bb, .slice pa p.length pc, .int .i64 st] 47)).alloc (.cells #[.bool false, .int .i64 k, .int .i64 l, .int .i64 bb, .slice pa p.length pc, .int .i64 st] 47)) (some ⟨wr.heap.size + 1, 0, none⟩) 1 [⟨⟨false, k, l, bb, p, st⟩, pa, pc⟩] from srcN_one (m := ⟨⟨false, k, l, bb, p, st⟩, pa, pc⟩) (by have h := Bk.new (wr.alloc (.cells #[.bool false, .int .i64 k, .int .i64 l, .int .i64 bb, .slice pa p.length pc, .int .i64 st] 47)) #[.bool false, .int .i64 k, .int .i64 l, .int .i64 bb, .slice pa p.length pc, .int .i64 st] 47; simp only [World.size_alloc] at h; exact h) (HPS.out.below (bel1 (al1 (.cells #[.bool false, .int .i64 k, .int .i64 l, .int .i64 bb, .slice pa p.length pc, .int .i64 st] 47)) (.cells #[.bool false, .int .i64 k, .int .i64 l, .int .i64 bb, .slice pa p.length pc, .int .i64 st] 47))))
          have P9 := Lib.hid (show ∀ m ∈ [(⟨⟨false, k, l, bb, p, st⟩, pa, pc⟩ : RN)], Prs w m.a m.c m.n.p from fun m hm => by simp at hm; subst hm; exact HPW.out)
          have H9 := Lib.hid (show M.length + [(⟨⟨false, k, l, bb, p, st⟩, pa, pc⟩ : RN)].length ≤ 100000 by have := HML.out; simp; omega)
          have U9 := Lib.hid (C8.out.u.keep (al1 (.cells #[.bool false, .int .i64 k, .int .i64 l, .int .i64 bb, .slice pa p.length pc, .int .i64 st] 47)))
          have BL9 := Lib.hid (bel1 (al1 (w := wr) (.cells #[.bool false, .int .i64 k, .int .i64 l, .int .i64 bb, .slice pa p.length pc, .int .i64 st] 47)) (.cells #[.bool false, .int .i64 k, .int .i64 l, .int .i64 bb, .slice pa p.length pc, .int .i64 st] 47))
          have o0 := C8.out.u.c0
          have o1 := C8.out.u.c1
          go_wp2_with (first
            | (go_at_call 57; ((with_reducible refine cc.mono ?_); clear cc; rintro e w2 ⟨rfl, rfl⟩))
            | (at_builtin; refine wpList_appnd rfl (.tmp 39) (.tmp 41) rfl _ M rfl R9.out (some ⟨wr.heap.size + 1, 0, none⟩) 1 [⟨⟨false, k, l, bb, p, st⟩, pa, pc⟩] 1 rfl rfl S9.out P9.out H9.out (M.length + 1) rfl ?_; intro a4 c4 w4 hm4 hc4 hR4 hO4 hk4; have F4 := Lib.hid (And.intro hR4 (And.intro hO4 hk4)); have z := U9.out.only hO4 HNQ.out; have z1 := z.c1; have zf := z.fr 1; clear hR4 hO4 hk4 z; unfold maxLen at hm4)
            | fail)
          go_roundw
          case rel => exact ⟨n + 1, a4, c4, _, by omega, by go_num, HC.out.next HG.out.1 HG.out.2 (by rw [HX.out, fixn_lf rfl]) BL9.out rfl F4.out.1 F4.out.2.1 F4.out.2.2⟩
          case measure => simp [intOf]; omega
        · obtain ⟨u, v, eu, ev, hu, hv⟩ := HKX.out rfl
          try dsimp only at eu ev
          subst eu ev
          have C9 := Lib.hid (C8.out.keep (Below.refl _ _).drew)
          have cu := moved_any i o ga gc u _ _ (HRI.out.below C9.out.b) (C9.out.k.at_ 0 _ rfl) (by omega) HIO.out (u : Int) rfl _ rfl
          have cv' := moved_any i o ga gc v _ _ (HRI.out.below C9.out.b) (C9.out.k.at_ 0 _ rfl) (by omega) HIO.out (v : Int) rfl _ rfl
          go_upto_region 8 with (go_at_call 57; ((with_reducible refine cc.mono ?_); clear cc; rintro e w2 ⟨rfl, rfl⟩))
          have BL8 := Lib.hid (show Below wr.heap.size wr (wr.alloc (.cells #[.bool true, .int .i64 k, .int .i64 ((shf i o u : Nat) : Int), .int .i64 ((shf i o v : Nat) : Int), .slice pa p.length pc, .int .i64 st] 47)).drew from (al1 (.cells #[.bool true, .int .i64 k, .int .i64 ((shf i o u : Nat) : Int), .int .i64 ((shf i o v : Nat) : Int), .slice pa p.length pc, .int .i64 st] 47)).drew)
          have BL9 := Lib.hid (show Below wr.heap.size wr (((wr.alloc (.cells #[.bool true, .int .i64 k, .int .i64 ((shf i o u : Nat) : Int), .int .i64 ((shf i o v : Nat) : Int), .slice pa p.length pc, .int .i64 st] 47)).alloc (.cells #[.bool true, .int .i64 k, .int .i64 ((shf i o u : Nat) : Int), .int .i64 ((shf i o v : Nat) : Int), .slice pa p.length pc, .int .i64 st] 47)).drew) from (bel1 (al1 (.cells #[.bool true, .int .i64 k, .int .i64 ((shf i o u : Nat) : Int), .int .i64 ((shf i o v : Nat) : Int), .slice pa p.length pc, .int .i64 st] 47)) (.cells #[.bool true, .int .i64 k, .int .i64 ((shf i o u : Nat) : Int), .int .i64 ((shf i o v : Nat) : Int), .slice pa p.length pc, .int .i64 st] 47)).drew)
          have R9 := Lib.hid (show NdR w (((wr.alloc (.cells #[.bool true, .int .i64 k, .int .i64 ((shf i o u : Nat) : Int), .int .i64 ((shf i o v : Nat) : Int), .slice pa p.length pc, .int .i64 st] 47)).alloc (.cells #[.bool true, .int .i64 k, .int .i64 ((shf i o u : Nat) : Int), .int .i64 ((shf i o v : Nat) : Int), .slice pa p.length pc, .int .i64 st] 47)).drew) (.slice av M.length cv) M from HC.out.r.keep BL9.out)
          have S9 := Lib.hid (show SrcN (((wr.alloc (.cells #[.bool true, .int .i64 k, .int .i64 ((shf i o u : Nat) : Int), .int .i64 ((shf i o v : Nat) : Int), .slice pa p.length pc, .int .i64 st] 47)).alloc (.cells #[.bool true, .int .i64 k, .int .i64 ((shf i o u : Nat) : Int), .int .i64 ((shf i o v : Nat) : Int), .slice pa p.length pc, .int .i64 st] 47)).drew) (some ⟨wr.heap.size + 1, 0, none⟩) 1 [⟨⟨true, k, ((shf i o u : Nat) : Int), ((shf i o v : Nat) : Int), p, st⟩, pa, pc⟩] from srcN_one (m := ⟨⟨true, k, ((shf i o u : Nat) : Int), ((shf i o v : Nat) : Int), p, st⟩, pa, pc⟩) (by have h := (Bk.new (wr.alloc (.cells #[.bool true, .int .i64 k, .int .i64 ((shf i o u : Nat) : Int), .int .i64 ((shf i o v : Nat) : Int), .slice pa p.length pc, .int .i64 st] 47)) #[.bool true, .int .i64 k, .int .i64 ((shf i o u : Nat) : Int), .int .i64 ((shf i o v : Nat) : Int), .slice pa p.length pc, .int .i64 st] 47).drew; simp only [World.size_alloc] at h; exact h) (HPS.out.below BL9.out))
          have P9 := Lib.hid (show ∀ m ∈ [(⟨⟨true, k, ((shf i o u : Nat) : Int), ((shf i o v : Nat) : Int), p, st⟩, pa, pc⟩ : RN)], Prs w m.a m.c m.n.p from fun m hm => by simp at hm; subst hm; exact HPW.out)
          have H9 := Lib.hid (show M.length + [(⟨⟨true, k, ((shf i o u : Nat) : Int), ((shf i o v : Nat) : Int), p, st⟩, pa, pc⟩ : RN)].length ≤ 100000 by have := HML.out; simp; omega)
          have U9 := Lib.hid (HC.out.u.keep BL9.out)
          have o0 := (HC.out.u.keep BL8.out).c0
          have o1 := (HC.out.u.keep BL8.out).c1
          go_region_with (first | (go_at_call 63; (with_reducible refine cu.mono ?_); rintro e w2 ⟨rfl, rfl⟩) | (go_at_call 63; (with_reducible refine cv'.mono ?_); rintro e w2 ⟨rfl, rfl⟩))
          all_goals
            go_wp2_with (at_builtin; refine wpList_appnd rfl (.tmp 39) (.tmp 41) rfl _ M rfl R9.out (some ⟨wr.heap.size + 1, 0, none⟩) 1 [⟨⟨true, k, ((shf i o u : Nat) : Int), ((shf i o v : Nat) : Int), p, st⟩, pa, pc⟩] 1 rfl rfl S9.out P9.out H9.out (M.length + 1) rfl ?_; intro a4 c4 w4 hm4 hc4 hR4 hO4 hk4; have F4 := Lib.hid (And.intro hR4 (And.intro hO4 hk4)); have z := U9.out.only hO4 HNQ.out; have z1 := z.c1; have zf := z.fr 1; clear hR4 hO4 hk4 z; unfold maxLen at hm4)
            go_roundw
            case rel => exact ⟨n + 1, a4, c4, _, by omega, by go_num, HC.out.next HG.out.1 HG.out.2 (by rw [HX.out, fixn_rt rfl]; rfl) BL9.out rfl F4.out.1 F4.out.2.1 F4.out.2.2⟩
            case measure => simp [intOf]; omega
    · obtain rfl : n = N.length := by omega
      have o0 := hC.u.c0
      have o1 := hC.u.c1
      have r0 := hC.e.c0
      have r1 := hC.e.c1
      have f0 := hC.e.fr 0
      have f1 := hC.e.fr 1
      have hMl : M.length = (drp N i o N.length).length := by rw [← hC.m, List.length_map]
      have hns := hC.r.r.ns.2
      rw [hC.m] at hns
      have FIN := Lib.hid (show TnIs w ((shf i o tn : Nat) : Int) (drp N i o N.length) (.returned (.agg #[.int .i64 ((shf i o tn : Nat) : Int), .slice av M.length cv])) ((wr.setCell ⟨w.heap.size + 2, 0, none⟩ (.int .i64 ((shf i o tn : Nat) : Int))).setCell ⟨w.heap.size + 2, 1, none⟩ (.slice av M.length cv)) from
        ⟨av, cv, by rw [hMl], ns_ret hC.e hns _ _, ret_below hC.b (by omega) _ _⟩)
      clear hC hns hMl
      go_wp2_with (fail)
      exact bodyPost_ret (v := .agg #[.int .i64 ((shf i o tn : Nat) : Int), .slice av M.length cv]) (by simp [results, Try.results38, go_sem, r0, r1]) rfl FIN.out
#print axioms without_any
end Go.Proofs.Yteebceecohhegaa
