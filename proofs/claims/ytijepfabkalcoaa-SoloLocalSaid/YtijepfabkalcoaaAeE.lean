/- adapt.without exactly: a tree's nodes without two places. No condition: lemmas. adapt.Join exactly, of trees whose pairs are not too many. No condition: lemmas. -/
import Derived.Test.YtijepfabkalcoaaAeD
import Derived.Test.YtijepfabkalcoaaTsF
namespace Go.Proofs.Ytijepfabkalcoaa
open Go.RowKit
set_option linter.all false

/-- How many of them are below. -/
def cntB (G : List Nat) (v : Nat) : Nat := (G.filter (fun g => decide (g < v))).length
theorem cntB_take {G : List Nat} {v n g : Nat} (h : G[n]? = some g) : cntB (G.take (n + 1)) v = cntB (G.take n) v + if g < v then 1 else 0 := by
  unfold cntB
  rw [List.take_succ, h, List.filter_append, List.length_append]
  congr 1
  by_cases e : g < v
  · simp [e]
  · simp [e]
theorem cntB_le (G : List Nat) (v : Nat) : cntB G v ≤ G.length := List.length_filter_le ..
set_option maxRecDepth 100000 in
set_option maxHeartbeats 3200000 in
theorem moved_gen (G : List Nat) (ao : Option Addr) (c : Nat) (v : Nat) (q : Nat) (w : World) (hR : RI w ao c (preI G)) (hq : w.cell? ⟨q, 0, none⟩ = some (.slice ao G.length c)) (hv : v ≤ 100000) (hG : G.length ≤ 100000) :
    Calls Try.prog 137 #[.int .i64 (v : Int), .pointer (some ⟨q, 0, none⟩)] w fun e w' => e = .returned (.int .i64 ((v : Int) - (cntB G v : Int))) ∧ w' = w := by
  have HH := Lib.hid hR
  have hc1 := hR.1
  have hc2 := hR.2.1
  rw [preI_len] at hc1
  unfold maxLen at hc2
  clear hR
  go_enter Try.func137, Try.ntmps137
  go_wp2_with (fail)
  go_loopw [4, 10] (fun x i wr => ∃ n : Nat, n ≤ G.length ∧ i = .int .i64 n ∧ x = .int .i64 ((v : Int) - (cntB (G.take n) v : Int)) ∧ wr = w) (fun _ i _ => G.length - (intOf i).toNat)
  case atStart => exact ⟨0, Nat.zero_le _, rfl, by simp [cntB], rfl⟩
  case round =>
    obtain ⟨n, hn, rfl, rfl, rfl⟩ := hrel
    by_cases hlt : n < G.length
    · obtain ⟨g, hg⟩ : ∃ g, G[n]? = some g := ⟨_, List.getElem?_eq_getElem hlt⟩
      obtain ⟨b, o, rfl, c0⟩ := HH.out.2.2 n _ (preI_get hg)
      have HC := Lib.hid (cntB_take (v := v) hg)
      have hle := cntB_le (G.take n) v
      rw [List.length_take] at hle
      have hle2 : cntB (G.take n) v ≤ 100000 := by omega
      obtain ⟨k, hk⟩ : ∃ k, cntB (G.take n) v = k := ⟨_, rfl⟩
      rw [hk] at hle2 HC
      have HK := Lib.hid hk
      rw [hk]
      clear hg hle hk
      by_cases h1 : g < v
      · have h1' : (g : Int) < (v : Int) := by omega
        have hw : wrap64 ((v : Int) - (k : Int) - 1) = (v : Int) - (k : Int) - 1 := by unfold wrap64; omega
        go_wp2_with (fail)
        go_roundw
        case rel => exact ⟨n + 1, by omega, by go_num, by rw [HC.out, if_pos h1]; congr 1; omega, trivial⟩
        case measure => simp [intOf]; omega
      · have h1' : ¬ (g : Int) < (v : Int) := by omega
        go_wp2_with (fail)
        go_roundw
        case rel => exact ⟨n + 1, by omega, by go_num, by rw [HC.out, if_neg h1]; rfl, trivial⟩
        case measure => simp [intOf]; omega
    · obtain rfl : n = G.length := by omega
      rw [List.take_of_length_le (Nat.le_refl _)]
      go_wp2_with (fail)
      go_ret
      exact ⟨rfl, rfl⟩
theorem moved_any (i o : Nat) (ao : Option Addr) (c : Nat) (v : Nat) (q : Nat) (w : World) (hR : RI w ao c [(i : Int), (o : Int)]) (hq : w.cell? ⟨q, 0, none⟩ = some (.slice ao 2 c)) (hv : v ≤ 100000) (hio : i ≠ o) (x : Int) (hx : (v : Int) = x) (s : Nat) (hs : shf i o v = s) :
    Calls Try.prog 137 #[.int .i64 x, .pointer (some ⟨q, 0, none⟩)] w fun e w' => e = .returned (.int .i64 (s : Int)) ∧ w' = w := by
  subst hx hs
  refine (moved_gen [i, o] ao c v q w hR hq hv (by simp)).mono (fun e w' hh => ⟨?_, hh.2⟩)
  rw [hh.1]
  congr 2
  unfold cntB shf
  by_cases h1 : i < v
  · by_cases h2 : o < v
    · simp [h1, h2]; omega
    · simp [h1, h2]; omega
  · by_cases h2 : o < v
    · simp [h1, h2]; omega
    · simp [h1, h2]

theorem srcN_one {W : World} {g : Nat} {m : RN} (hB : Bk W g (cellN m)) (hp : Prs W m.a m.c m.n.p) : SrcN W (some ⟨g, 0, none⟩) 1 [m] :=
  ⟨.inr ⟨_, _, rfl, fun j u hj => by rw [add_lit, Nat.zero_add]; exact hB.at_ j u (by simpa [cellsN] using hj)⟩, fun x hx => by simp at hx; subst hx; exact hp⟩
theorem ct2_any (ao : Option Addr) (c : Nat) (x y z : Int) (w : World) (h : RI w ao c [x, y]) (B : Bool) (hB : B = true ↔ z ∈ [x, y]) :
    Calls Try.prog 123 #[.slice ao 2 c, .int .i64 z] w fun e w' => e = .returned (.bool B) ∧ w' = w := ctI_any ao c [x, y] z w h B hB
/-- What holds all along. -/
structure Wo (w : World) (tn : Nat) (a : Option Addr) (cap : Nat) (N : List Nd) (i o : Nat) (ga : Option Addr) (gc : Nat) (wr : World) (av : Option Addr) (cv : Nat) (M : List RN) (n : Nat) : Prop where
  m : M.map (fun m => m.n) = drp N i o n
  r : NdR w wr (.slice av M.length cv) M
  q : ∀ k, (Value.slice av M.length cv).ownBlock = some k → w.heap.size + 4 ≤ k
  g : Bk wr w.heap.size [.int .i64 (tn : Int), .slice a N.length cap]
  k : Bk wr (w.heap.size + 1) [.slice ga 2 gc]
  e : Rq wr (w.heap.size + 2)
  u : Tq wr (w.heap.size + 3) ((shf i o tn : Nat) : Int) av M.length cv
  b : Below w.heap.size w wr
section
variable {w : World} {tn : Nat} {a : Option Addr} {cap : Nat} {N : List Nd} {i o : Nat} {ga : Option Addr} {gc : Nat} {wr w' W9 w4 : World} {av : Option Addr} {cv : Nat} {M : List RN} {n : Nat}
theorem Wo.keep (h : Wo w tn a cap N i o ga gc wr av cv M n) (hb : Below wr.heap.size wr w') : Wo w tn a cap N i o ga gc w' av cv M n :=
  ⟨h.m, h.r.keep hb, h.q, h.g.keep hb, h.k.keep hb, h.e.keep hb, h.u.keep hb, bel2 h.b hb⟩
theorem Wo.no (h : Wo w tn a cap N i o ga gc wr av cv M n) (hn : n = i ∨ n = o) : Wo w tn a cap N i o ga gc wr av cv M (n + 1) :=
  ⟨by rw [drp_no hn]; exact h.m, h.r, h.q, h.g, h.k, h.e, h.u, h.b⟩
/-- One more node. -/
theorem Wo.next (h : Wo w tn a cap N i o ga gc wr av cv M n) (h1 : n ≠ i) (h2 : n ≠ o) {m : RN} (hm : m.n = fixn (shf i o) (nd N n)) (h9 : Below wr.heap.size wr W9) {a4 : Option Addr} {n4 c4 : Nat} (hn4 : n4 = M.length + 1)
    (hR : NdR w w4 (.slice a4 n4 c4) (M ++ [m])) (hO : Only (fun k => (Value.slice av M.length cv).ownBlock = some k) W9 w4) (hk : ∀ k, (Value.slice a4 n4 c4).ownBlock = some k → (Value.slice av M.length cv).ownBlock = some k ∨ W9.heap.size ≤ k) :
    Wo w tn a cap N i o ga gc (w4.setCell ⟨w.heap.size + 3, 1, none⟩ (.slice a4 n4 c4)) a4 c4 (M ++ [m]) (n + 1) := by
  have hq : ∀ k, (Value.slice av M.length cv).ownBlock = some k → w.heap.size + 4 ≤ k := h.q
  have hO2 : Only (fun k => k = w.heap.size + 3) w4 (w4.setCell ⟨w.heap.size + 3, 1, none⟩ (.slice a4 n4 c4)) := (Only.refl _ w4).setCell (S := fun k => k = w.heap.size + 3) (p := ⟨w.heap.size + 3, 1, none⟩) (.inl rfl) _
  have g4 := ((h.g.keep h9).only hO (fun e => by have := hq _ e; omega)).only hO2 (by show ¬ (_ = _); omega)
  have k4 := ((h.k.keep h9).only hO (fun e => by have := hq _ e; omega)).only hO2 (by show ¬ (_ = _); omega)
  have e4 := ((h.e.keep h9).only hO (fun e => by have := hq _ e; omega)).only hO2 (by show ¬ (_ = _); omega)
  have u3 := (h.u.keep h9).only hO (fun e => by have := hq _ e; omega)
  have ho : ∀ k, (Value.slice a4 n4 c4).ownBlock = some k → w.heap.size + 4 ≤ k := fun k hk' => by
    have := h.u.lt
    have := h9.size
    rcases hk k hk' with e | e
    · exact hq k e
    · omega
  have hll : (M ++ [m]).length = n4 := by rw [List.length_append, hn4]; rfl
  have hb : Below w.heap.size w (w4.setCell ⟨w.heap.size + 3, 1, none⟩ (.slice a4 n4 c4)) := by
    have b9 : Below w.heap.size w W9 := bel2 h.b h9
    have b4 : Below w.heap.size w w4 := b9.trans (hO.below (B := w.heap.size) (fun i hi => by have := hq i hi; omega) b9.size)
    exact b4.setCell (by show _ ≤ _ + 3; omega) _
  refine ⟨by rw [List.map_append, h.m, drp_yes h1 h2, ← hm]; rfl, ?_, by rw [hll]; exact ho, g4, k4, e4, by rw [hll]; exact u3.set1 _ _ _, hb⟩
  rw [hll]
  refine ⟨⟨?_, fun k _ hk => hk, fun x hx => ?_⟩, hR.own, hb⟩
  · exact hO2.row hR.r.row (fun k hk => by show ¬ (k = _); have := ho k hk; omega)
  · obtain ⟨p1, p2⟩ := hR.r.prs x hx
    exact ⟨u3.prs p1 _ _, p2⟩
end
set_option maxRecDepth 100000 in
set_option maxHeartbeats 6400000 in
theorem without_any (tn : Nat) (a : Option Addr) (cap : Nat) (N : List Nd) (i o : Nat) (ga : Option Addr) (gc : Nat) (w : World) (hN : Ns w a cap N) (hl : N.length ≤ 2000) (hR : RI w ga gc [(i : Int), (o : Int)]) (hio : i ≠ o) (ht : tn ≤ 2000)
    (hk : ∀ z < N.length, (nd N z).r = true → ∃ u v : Nat, (nd N z).a = u ∧ (nd N z).b = v ∧ u < 2000 ∧ v < 2000) :
    Calls Try.prog 128 #[trv (tn : Int) a cap N, .slice ga 2 gc] w (TnIs w ((shf i o tn : Nat) : Int) (drp N i o N.length)) := by
  have hc1 := hN.1
  have hc2 := hN.2.1
  unfold maxLen at hc2
  have b3 : Below w.heap.size w (((w.alloc (.cells #[.int .i64 (tn : Int), .slice a N.length cap] 24)).alloc (.cells #[.slice ga 2 gc] 37)).alloc (.cells #[.int .i64 0, .slice none 0 0] 24)) := bel1 (bel1 (al1 _) _) _
  have hq : (((w.alloc (.cells #[.int .i64 (tn : Int), .slice a N.length cap] 24)).alloc (.cells #[.slice ga 2 gc] 37)).alloc (.cells #[.int .i64 0, .slice none 0 0] 24)).cell? ⟨w.heap.size + 1, 0, none⟩ = some (.slice ga 2 gc) := by simp [go_sem]
  have cm := moved_any i o ga gc tn _ _ (hR.below b3) hq (by omega) hio (tn : Int) rfl _ rfl
  have C0 := Lib.hid (show Wo w tn a cap N i o ga gc ((((w.alloc (.cells #[.int .i64 (tn : Int), .slice a N.length cap] 24)).alloc (.cells #[.slice ga 2 gc] 37)).alloc (.cells #[.int .i64 0, .slice none 0 0] 24)).alloc (.cells #[.int .i64 ((shf i o tn : Nat) : Int), .slice none 0 0] 24)) none 0 [] 0 from
    ⟨rfl, ⟨NRow.nil _ _, fun k hk => by simp [Value.ownBlock] at hk, bel1 b3 _⟩, fun k hk => by simp [Value.ownBlock] at hk, ((Bk.new w #[.int .i64 (tn : Int), .slice a N.length cap] 24).past _).past _ |>.past _, by
      have h := ((Bk.new (w.alloc (.cells #[.int .i64 (tn : Int), .slice a N.length cap] 24)) #[.slice ga 2 gc] 37).past (.cells #[.int .i64 0, .slice none 0 0] 24)).past (.cells #[.int .i64 ((shf i o tn : Nat) : Int), .slice none 0 0] 24)
      simp only [World.size_alloc] at h; exact h, by
      have h := (Rq.new ((w.alloc (.cells #[.int .i64 (tn : Int), .slice a N.length cap] 24)).alloc (.cells #[.slice ga 2 gc] 37))).keep (al1 (.cells #[.int .i64 ((shf i o tn : Nat) : Int), .slice none 0 0] 24))
      simp only [World.size_alloc] at h; exact h, by
      have h := Tq.new (((w.alloc (.cells #[.int .i64 (tn : Int), .slice a N.length cap] 24)).alloc (.cells #[.slice ga 2 gc] 37)).alloc (.cells #[.int .i64 0, .slice none 0 0] 24)) ((shf i o tn : Nat) : Int) none 0 0
      simp only [World.size_alloc] at h; exact h, bel1 b3 _⟩)
  have HN := Lib.hid hN
  have HRI := Lib.hid hR
  have HIO := Lib.hid hio
  have HK := Lib.hid hk
  have HTN := Lib.hid ht
  unfold trv
  clear hN hR hio hk ht b3 hq
  go_enter Try.func128, Try.ntmps128
  go_wp2_with (go_at_call 137; ((with_reducible refine cm.mono ?_); clear cm; rintro e w3 ⟨rfl, rfl⟩))
  generalize (World.alloc _ _ : World) = W3 at C0 ⊢
  go_loopw [18] (fun j wr => ∃ (n : Nat) (av : Option Addr) (cv : Nat) (M : List RN), n ≤ N.length ∧ j = .int .i64 n ∧ Wo w tn a cap N i o ga gc wr av cv M n) (fun j _ => N.length - (intOf j).toNat)
  case atStart => exact ⟨0, none, 0, [], Nat.zero_le _, rfl, C0.out⟩
  case round =>
    obtain ⟨n, av, cv, M, hn, rfl, hC⟩ := hrel
    have HC := Lib.hid hC
    obtain ⟨_, _, e', hcv, hmv⟩ := hC.r.r.form
    injection e' with e1 e2 e3
    subst e3
    clear e1 e2
    by_cases hlt : n < N.length
    · obtain ⟨x, hx⟩ : ∃ x, N[n]? = some x := ⟨_, List.getElem?_eq_getElem hlt⟩
      obtain ⟨b, o', pa, pc, rfl, hx1⟩ := (HN.out.keep hC.b).2.2 n x hx
      have hn0 : (0 : Int) ≤ (n : Int) := by omega
      have hnl : (n : Int) < (N.length : Int) := by omega
      have HX := Lib.hid (nd_of hx)
      have HPS := Lib.hid hx1.ps
      have HKX := Lib.hid (HK.out n hlt)
      have HPW := Lib.hid (show Prs w pa pc x.p from by
        obtain ⟨b2, o2, pa2, pc2, e2, hx2⟩ := HN.out.2.2 n x hx
        cases e2
        have c4 := kc hC.b hx2.c4
        rw [hx1.c4] at c4
        cases c4
        exact hx2.ps)
      obtain ⟨e0, e1, e2, e3, e4, e5, -⟩ := hx1
      rw [HX.out] at HKX
      obtain ⟨r, k, l, bb, p, st⟩ := x
      dsimp only at e0 e1 e2 e3 e4 e5 HKX HPS HPW
      have B8 := Lib.hid (Bk.new wr #[.bool r, .int .i64 k, .int .i64 l, .int .i64 bb, .slice pa p.length pc, .int .i64 st] 49)
      have C8 := Lib.hid (hC.keep (al1 (.cells #[.bool r, .int .i64 k, .int .i64 l, .int .i64 bb, .slice pa p.length pc, .int .i64 st] 49)))
      have k0 := C8.out.k.at_ 0 _ rfl
      have cc := fun (B : Bool) (hB : B = true ↔ (n : Int) ∈ [(i : Int), (o : Int)]) => ct2_any ga gc (i : Int) (o : Int) (n : Int) _ (HRI.out.below C8.out.b) B hB
      clear hx hC
      by_cases hG : n = i ∨ n = o
      · have cc := cc true ⟨fun _ => by simp; omega, fun _ => rfl⟩
        have HG := Lib.hid hG
        clear hG
        go_wp2_with (go_at_call 123; ((with_reducible refine cc.mono ?_); clear cc; rintro e w2 ⟨rfl, rfl⟩))
        go_roundw
        case rel => exact ⟨n + 1, av, _, M, by omega, by go_num, C8.out.no HG.out⟩
        case measure => simp [intOf]; omega
      · have cc := cc false ⟨fun e => (by cases e), fun e => by simp at e; omega⟩
        have HG := Lib.hid (show n ≠ i ∧ n ≠ o from ⟨fun e => hG (.inl e), fun e => hG (.inr e)⟩)
        clear hG
        have HML := Lib.hid (show M.length ≤ 2000 by
          have h1 : M.length = (drp N i o n).length := by rw [← HC.out.m, List.length_map]
          rw [h1, drp_len HIO.out]
          unfold shf
          omega)
        have HNQ := Lib.hid (show ¬ ((Value.slice av M.length cv).ownBlock = some (w.heap.size + 3)) from fun e => by have := HC.out.q _ e; omega)
        cases r
        · have R9 := Lib.hid (C8.out.r.keep (al1 (.cells #[.bool false, .int .i64 k, .int .i64 l, .int .i64 bb, .slice pa p.length pc, .int .i64 st] 49)))
          have S9 := Lib.hid (show SrcN ((wr.alloc (.cells #[.bool false, .int .i64 k, .int .i64 l, .int .i64 bb, .slice pa p.length pc, .int .i64 st] 49)).alloc (.cells #[.bool false, .int .i64 k, .int .i64 l, .int .i64 bb, .slice pa p.length pc, .int .i64 st] 49)) (some ⟨wr.heap.size + 1, 0, none⟩) 1 [⟨⟨false, k, l, bb, p, st⟩, pa, pc⟩] from srcN_one (m := ⟨⟨false, k, l, bb, p, st⟩, pa, pc⟩) (by have h := Bk.new (wr.alloc (.cells #[.bool false, .int .i64 k, .int .i64 l, .int .i64 bb, .slice pa p.length pc, .int .i64 st] 49)) #[.bool false, .int .i64 k, .int .i64 l, .int .i64 bb, .slice pa p.length pc, .int .i64 st] 49; simp only [World.size_alloc] at h; exact h) (HPS.out.below (bel1 (al1 (.cells #[.bool false, .int .i64 k, .int .i64 l, .int .i64 bb, .slice pa p.length pc, .int .i64 st] 49)) (.cells #[.bool false, .int .i64 k, .int .i64 l, .int .i64 bb, .slice pa p.length pc, .int .i64 st] 49))))
          have P9 := Lib.hid (show ∀ m ∈ [(⟨⟨false, k, l, bb, p, st⟩, pa, pc⟩ : RN)], Prs w m.a m.c m.n.p from fun m hm => by simp at hm; subst hm; exact HPW.out)
          have H9 := Lib.hid (show M.length + [(⟨⟨false, k, l, bb, p, st⟩, pa, pc⟩ : RN)].length ≤ 100000 by have := HML.out; simp; omega)
          have U9 := Lib.hid (C8.out.u.keep (al1 (.cells #[.bool false, .int .i64 k, .int .i64 l, .int .i64 bb, .slice pa p.length pc, .int .i64 st] 49)))
          have BL9 := Lib.hid (bel1 (al1 (w := wr) (.cells #[.bool false, .int .i64 k, .int .i64 l, .int .i64 bb, .slice pa p.length pc, .int .i64 st] 49)) (.cells #[.bool false, .int .i64 k, .int .i64 l, .int .i64 bb, .slice pa p.length pc, .int .i64 st] 49))
          have o0 := C8.out.u.c0
          have o1 := C8.out.u.c1
          go_wp2_with (first
            | (go_at_call 123; ((with_reducible refine cc.mono ?_); clear cc; rintro e w2 ⟨rfl, rfl⟩))
            | (at_builtin; refine wpList_appnd rfl (.tmp 39) (.tmp 41) rfl _ M rfl R9.out (some ⟨wr.heap.size + 1, 0, none⟩) 1 [⟨⟨false, k, l, bb, p, st⟩, pa, pc⟩] 1 rfl rfl S9.out P9.out H9.out (M.length + 1) rfl ?_; intro a4 c4 w4 hm4 hc4 hR4 hO4 hk4; have F4 := Lib.hid (And.intro hR4 (And.intro hO4 hk4)); have z := U9.out.only hO4 HNQ.out; have z1 := z.c1; have zf := z.fr 1; clear hR4 hO4 hk4 z; unfold maxLen at hm4)
            | fail)
          go_roundw
          case rel => exact ⟨n + 1, a4, c4, _, by omega, by go_num, HC.out.next HG.out.1 HG.out.2 (by rw [HX.out, fixn_lf rfl]) BL9.out rfl F4.out.1 F4.out.2.1 F4.out.2.2⟩
          case measure => simp [intOf]; omega
        · obtain ⟨u, v, eu, ev, hu, hv⟩ := HKX.out rfl
          try dsimp only at eu ev
          subst eu ev
          have C9 := Lib.hid (C8.out.keep (Below.refl _ _).drew)
          have cu := moved_any i o ga gc u _ _ (HRI.out.below C9.out.b) (C9.out.k.at_ 0 _ rfl) (by omega) HIO.out (u : Int) rfl _ rfl
          have cv' := moved_any i o ga gc v _ _ (HRI.out.below C9.out.b) (C9.out.k.at_ 0 _ rfl) (by omega) HIO.out (v : Int) rfl _ rfl
          go_upto_region 8 with (go_at_call 123; ((with_reducible refine cc.mono ?_); clear cc; rintro e w2 ⟨rfl, rfl⟩))
          have BL8 := Lib.hid (show Below wr.heap.size wr (wr.alloc (.cells #[.bool true, .int .i64 k, .int .i64 ((shf i o u : Nat) : Int), .int .i64 ((shf i o v : Nat) : Int), .slice pa p.length pc, .int .i64 st] 49)).drew from (al1 (.cells #[.bool true, .int .i64 k, .int .i64 ((shf i o u : Nat) : Int), .int .i64 ((shf i o v : Nat) : Int), .slice pa p.length pc, .int .i64 st] 49)).drew)
          have BL9 := Lib.hid (show Below wr.heap.size wr (((wr.alloc (.cells #[.bool true, .int .i64 k, .int .i64 ((shf i o u : Nat) : Int), .int .i64 ((shf i o v : Nat) : Int), .slice pa p.length pc, .int .i64 st] 49)).alloc (.cells #[.bool true, .int .i64 k, .int .i64 ((shf i o u : Nat) : Int), .int .i64 ((shf i o v : Nat) : Int), .slice pa p.length pc, .int .i64 st] 49)).drew) from (bel1 (al1 (.cells #[.bool true, .int .i64 k, .int .i64 ((shf i o u : Nat) : Int), .int .i64 ((shf i o v : Nat) : Int), .slice pa p.length pc, .int .i64 st] 49)) (.cells #[.bool true, .int .i64 k, .int .i64 ((shf i o u : Nat) : Int), .int .i64 ((shf i o v : Nat) : Int), .slice pa p.length pc, .int .i64 st] 49)).drew)
          have R9 := Lib.hid (show NdR w (((wr.alloc (.cells #[.bool true, .int .i64 k, .int .i64 ((shf i o u : Nat) : Int), .int .i64 ((shf i o v : Nat) : Int), .slice pa p.length pc, .int .i64 st] 49)).alloc (.cells #[.bool true, .int .i64 k, .int .i64 ((shf i o u : Nat) : Int), .int .i64 ((shf i o v : Nat) : Int), .slice pa p.length pc, .int .i64 st] 49)).drew) (.slice av M.length cv) M from HC.out.r.keep BL9.out)
          have S9 := Lib.hid (show SrcN (((wr.alloc (.cells #[.bool true, .int .i64 k, .int .i64 ((shf i o u : Nat) : Int), .int .i64 ((shf i o v : Nat) : Int), .slice pa p.length pc, .int .i64 st] 49)).alloc (.cells #[.bool true, .int .i64 k, .int .i64 ((shf i o u : Nat) : Int), .int .i64 ((shf i o v : Nat) : Int), .slice pa p.length pc, .int .i64 st] 49)).drew) (some ⟨wr.heap.size + 1, 0, none⟩) 1 [⟨⟨true, k, ((shf i o u : Nat) : Int), ((shf i o v : Nat) : Int), p, st⟩, pa, pc⟩] from srcN_one (m := ⟨⟨true, k, ((shf i o u : Nat) : Int), ((shf i o v : Nat) : Int), p, st⟩, pa, pc⟩) (by have h := (Bk.new (wr.alloc (.cells #[.bool true, .int .i64 k, .int .i64 ((shf i o u : Nat) : Int), .int .i64 ((shf i o v : Nat) : Int), .slice pa p.length pc, .int .i64 st] 49)) #[.bool true, .int .i64 k, .int .i64 ((shf i o u : Nat) : Int), .int .i64 ((shf i o v : Nat) : Int), .slice pa p.length pc, .int .i64 st] 49).drew; simp only [World.size_alloc] at h; exact h) (HPS.out.below BL9.out))
          have P9 := Lib.hid (show ∀ m ∈ [(⟨⟨true, k, ((shf i o u : Nat) : Int), ((shf i o v : Nat) : Int), p, st⟩, pa, pc⟩ : RN)], Prs w m.a m.c m.n.p from fun m hm => by simp at hm; subst hm; exact HPW.out)
          have H9 := Lib.hid (show M.length + [(⟨⟨true, k, ((shf i o u : Nat) : Int), ((shf i o v : Nat) : Int), p, st⟩, pa, pc⟩ : RN)].length ≤ 100000 by have := HML.out; simp; omega)
          have U9 := Lib.hid (HC.out.u.keep BL9.out)
          have o0 := (HC.out.u.keep BL8.out).c0
          have o1 := (HC.out.u.keep BL8.out).c1
          go_region_with (first | (go_at_call 137; (with_reducible refine cu.mono ?_); rintro e w2 ⟨rfl, rfl⟩) | (go_at_call 137; (with_reducible refine cv'.mono ?_); rintro e w2 ⟨rfl, rfl⟩))
          all_goals
            go_wp2_with (at_builtin; refine wpList_appnd rfl (.tmp 39) (.tmp 41) rfl _ M rfl R9.out (some ⟨wr.heap.size + 1, 0, none⟩) 1 [⟨⟨true, k, ((shf i o u : Nat) : Int), ((shf i o v : Nat) : Int), p, st⟩, pa, pc⟩] 1 rfl rfl S9.out P9.out H9.out (M.length + 1) rfl ?_; intro a4 c4 w4 hm4 hc4 hR4 hO4 hk4; have F4 := Lib.hid (And.intro hR4 (And.intro hO4 hk4)); have z := U9.out.only hO4 HNQ.out; have z1 := z.c1; have zf := z.fr 1; clear hR4 hO4 hk4 z; unfold maxLen at hm4)
            go_roundw
            case rel => exact ⟨n + 1, a4, c4, _, by omega, by go_num, HC.out.next HG.out.1 HG.out.2 (by rw [HX.out, fixn_rt rfl]; rfl) BL9.out rfl F4.out.1 F4.out.2.1 F4.out.2.2⟩
            case measure => simp [intOf]; omega
    · obtain rfl : n = N.length := by omega
      have o0 := hC.u.c0
      have o1 := hC.u.c1
      have r0 := hC.e.c0
      have r1 := hC.e.c1
      have f0 := hC.e.fr 0
      have f1 := hC.e.fr 1
      have hMl : M.length = (drp N i o N.length).length := by rw [← hC.m, List.length_map]
      have hns := hC.r.r.ns.2
      rw [hC.m] at hns
      have FIN := Lib.hid (show TnIs w ((shf i o tn : Nat) : Int) (drp N i o N.length) (.returned (.agg #[.int .i64 ((shf i o tn : Nat) : Int), .slice av M.length cv])) ((wr.setCell ⟨w.heap.size + 2, 0, none⟩ (.int .i64 ((shf i o tn : Nat) : Int))).setCell ⟨w.heap.size + 2, 1, none⟩ (.slice av M.length cv)) from
        ⟨av, cv, by rw [hMl], ns_ret hC.e hns _ _, ret_below hC.b (by omega) _ _⟩)
      clear hC hns hMl
      go_wp2_with (fail)
      exact bodyPost_ret (v := .agg #[.int .i64 ((shf i o tn : Nat) : Int), .slice av M.length cv]) (by simp [results, Try.results128, go_sem, r0, r1]) rfl FIN.out
end Go.Proofs.Ytijepfabkalcoaa

namespace Go.Proofs.Ytijepfabkalcoaa
open Go.RowKit
set_option linter.all false

/-- Two rows of pairs in one. -/
theorem pcat2 {W : World} {a1 a2 : Option Addr} {c1 c2 n1 n2 : Nat} {p1 p2 : List Pr} (h1 : Prs W a1 c1 p1) (h2 : Prs W a2 c2 p2) (e1 : n1 = p1.length) (e2 : n2 = p2.length) (hl : p1.length + p2.length ≤ 3000000) (g : Nat)
    (d0 : W.cell? ⟨g, 0, none⟩ = some (.slice a1 n1 c1)) (d1 : W.cell? ⟨g, 1, none⟩ = some (.slice a2 n2 c2)) :
    Calls Try.prog 118 #[.slice (some ⟨g, 0, none⟩) 2 2] W (RowIs W (p1 ++ p2)) := by
  subst e1 e2
  have c := concat_any g [⟨a1, c1, p1⟩, ⟨a2, c2, p2⟩] W (fun j r hr => by
    match j, hr with
    | 0, hr => simp at hr; subst hr; exact ⟨d0, h1⟩
    | 1, hr => simp at hr; subst hr; exact ⟨d1, h2⟩) (by simp [sumL]; exact hl) (by simp) 2 (by simp) (by omega)
  rw [show catL [⟨a1, c1, p1⟩, ⟨a2, c2, p2⟩] = p1 ++ p2 by simp [catL]] at c
  exact c

set_option maxRecDepth 100000 in
set_option maxHeartbeats 6400000 in
theorem join_no (t : Int) (a : Option Addr) (cap : Nat) (N : List Nd) (y : Int) (w : World) (hN : Ns w a cap N) (hsm : Small N) (h : ¬ ∃ s i, LfAt N t y s i ∧ isLf i s = false) :
    Calls Try.prog 113 #[trv t a cap N, .int .i64 y] w fun e w' => e = .returned (.tuple #[.agg #[.int .i64 0, .slice none 0 0], .bool false]) ∧ Below w.heap.size w w' := by
  have b1 : Below w.heap.size w ((w.alloc (.cells #[.int .i64 t, .slice a N.length cap] 24)).alloc (.cells #[.int .i64 0, .slice none 0 0] 24)) := bel1 (al1 _) _
  have ci := next_any t a cap N y _ (hN.keep b1) hsm none (.inr ⟨rfl, h⟩)
  have R0 := Lib.hid (show Rq ((w.alloc (.cells #[.int .i64 t, .slice a N.length cap] 24)).alloc (.cells #[.int .i64 0, .slice none 0 0] 24)) (w.heap.size + 1) from by
    have h := Rq.new (w.alloc (.cells #[.int .i64 t, .slice a N.length cap] 24))
    simp only [World.size_alloc] at h; exact h)
  have HB := Lib.hid b1
  unfold trv kI at ci
  unfold trv
  simp only [Option.isSome_none] at ci
  clear b1 hN h hsm
  go_enter Try.func113, Try.ntmps113
  go_wp2_with (go_at_call 125; ((with_reducible refine ci.mono ?_); clear ci; rintro e w3 ⟨rfl, hb3⟩; have R1 := Lib.hid (R0.out.keep hb3); have HB3 := Lib.hid (bel2 HB.out hb3); clear hb3; have r0 := R1.out.c0; have r1 := R1.out.c1; have f0 := R1.out.fr 0; have f1 := R1.out.fr 1))
  exact bodyPost_ret (v := .tuple #[.agg #[.int .i64 0, .slice none 0 0], .bool false]) (by simp [results, Try.results113, go_sem, r0, r1]) rfl ⟨rfl, ret_below HB3.out (by omega) _ _⟩

theorem ri_two (W : World) (x y : Int) : RI (W.alloc (.cells #[.int .i64 x, .int .i64 y] 3)) (some ⟨W.heap.size, 0, none⟩) 2 [x, y] :=
  ⟨Nat.le_refl _, by unfold maxLen; omega, fun n v hv => by
    match n, hv with
    | 0, hv => simp at hv; subst hv; exact ⟨_, 0, rfl, World.cell?_alloc_new _ _ _ _⟩
    | 1, hv => simp at hv; subst hv; exact ⟨_, 0, rfl, World.cell?_alloc_new _ _ _ _⟩⟩
theorem KS.four {w : World} {t : Int} {a : Option Addr} {cap : Nat} {N : List Nd} {W : World} (h : KS w t a cap N W) {b j b' j' : Nat} {u u' : Value} (hi : w.cell? ⟨b, j, none⟩ = some u) (hk : w.cell? ⟨b', j', none⟩ = some u') :
    W.cell? ⟨w.heap.size, 0, none⟩ = some (.int .i64 t) ∧ W.cell? ⟨w.heap.size, 1, none⟩ = some (.slice a N.length cap) ∧ W.cell? ⟨b, j, none⟩ = some u ∧ W.cell? ⟨b', j', none⟩ = some u' ∧ KS w t a cap N W := ⟨h.g.at_ 0 _ rfl, h.g.at_ 1 _ rfl, kc h.b hi, kc h.b hk, h⟩
theorem KS.six {w : World} {t : Int} {a : Option Addr} {cap : Nat} {N : List Nd} {W W' : World} (h : KS w t a cap N W) {g : Nat} (hg : w.heap.size + 1 < g) (ho : Only (fun j => j = g) W W') : KS w t a cap N W' :=
  ⟨h.g.only ho (fun e => by have : w.heap.size = g := e; omega), h.r.only ho (fun e => by have : w.heap.size + 1 = g := e; omega), h.b.trans (ho.below (B := w.heap.size) (fun j hj => by have : j = g := hj; omega) h.b.size)⟩

set_option maxRecDepth 100000 in
set_option maxHeartbeats 6400000 in
theorem join_left (t : Int) (a : Option Addr) (cap : Nat) (N : List Nd) (s : Sh) (i k x o : Nat) (w : World) (hN : Ns w a cap N) (hsm : Small N) (h : LfAt N t (i : Int) s i) (hl : isLf i s = false)
    (hp : parA i s = some (x, false)) (hk : nextA i s = some k) (P : List Nd)
    (ho : (nd N x).b = (o : Int)) (hxa : (nd N x).a = (i : Int)) (hil : i < N.length) (hkl : k < N.length) (hxl : x < N.length) (hol : o < N.length) (hio : i ≠ o) (hkx : k ≠ x) (hki : i ≠ k) (hpa : ∀ n, PaO N i n → n = x)
    (hkid : ∀ z < N.length, (nd (joiN N i k x o false) z).r = true → ∃ u v : Nat, (nd (joiN N i k x o false) z).a = u ∧ (nd (joiN N i k x o false) z).b = v ∧ u < N.length ∧ v < N.length)
    (s' : Sh) (hTr : Tr (drp (joiN N i k x o false) i o N.length) s' ((shf i o s.top : Nat) : Int)) (hLay : lay (drp (joiN N i k x o false) i o N.length) s' 0 = P) (hsP : Small (drp (joiN N i k x o false) i o N.length)) :
    Calls Try.prog 113 #[trv t a cap N, .int .i64 (i : Int)] w (PlW w P) := by
  have b1 : Below w.heap.size w ((w.alloc (.cells #[.int .i64 t, .slice a N.length cap] 24)).alloc (.cells #[.int .i64 0, .slice none 0 0] 24)) := bel1 (al1 _) _
  have ci := next_yes t a cap N s i k _ (hN.keep b1) hsm h hl hk
  have ca := fun (W : World) (hW : Ns W a cap N) => above_any t a cap N (i : Int) W hW (by have := hsm.1; omega) (x : Int) true hpa (decide_eq_true (by omega))
  have B0 := Lib.hid (show Bk ((w.alloc (.cells #[.int .i64 t, .slice a N.length cap] 24)).alloc (.cells #[.int .i64 0, .slice none 0 0] 24)) w.heap.size [.int .i64 t, .slice a N.length cap] from (Bk.new w #[.int .i64 t, .slice a N.length cap] 24).past _)
  have R0 := Lib.hid (show Rq ((w.alloc (.cells #[.int .i64 t, .slice a N.length cap] 24)).alloc (.cells #[.int .i64 0, .slice none 0 0] 24)) (w.heap.size + 1) from by
    have h := Rq.new (w.alloc (.cells #[.int .i64 t, .slice a N.length cap] 24))
    simp only [World.size_alloc] at h; exact h)
  have HB := Lib.hid b1
  have hc1 := hN.1
  have hc2 := hN.2.1
  have hNl := hsm.1
  unfold maxLen at hc2
  have cn := fun (W : World) (hW : Ns W a cap N) => nclone_any a cap N W hW (by omega) (by omega)
  unfold NdIs at cn
  have hi0 : (0 : Int) ≤ (i : Int) := by omega
  have hi1 : (i : Int) < (N.length : Int) := by omega
  have hk0 : (0 : Int) ≤ (k : Int) := by omega
  have hk1 : (k : Int) < (N.length : Int) := by omega
  have hx0 : (0 : Int) ≤ (x : Int) := by omega
  have hx1 : (x : Int) < (N.length : Int) := by omega
  have ho0 : (0 : Int) ≤ (o : Int) := by omega
  have ho1 : (o : Int) < (N.length : Int) := by omega
  have HN := Lib.hid hN
  obtain ⟨b, of, pax, pcx, rfl, hnx⟩ := hN.2.2 x _ (nd_get hxl)
  obtain ⟨b', of', pai, pci, e', hni⟩ := hN.2.2 i _ (nd_get hil)
  cases e'
  obtain ⟨b', of', pak, pck, e', hnk⟩ := hN.2.2 k _ (nd_get hkl)
  cases e'
  have c2 := hnx.c2
  have c3 := hnx.c3
  rw [hxa] at c2
  rw [ho] at c3
  have HE := Lib.hid (And.intro c2 (And.intro c3 (And.intro hni.c4 hnk.c4)))
  have HPI := Lib.hid hni.ps
  have HPK := Lib.hid hnk.ps
  have hpi := hsm.at (nd_get hil)
  have hpk := hsm.at (nd_get hkl)
  have HPL := Lib.hid (And.intro hpi hpk)
  have HTOP := Lib.hid (show t = (s.top : Int) from h.1.hg.top)
  have HTR := Lib.hid hTr
  have HLY := Lib.hid hLay
  have HSP := Lib.hid hsP
  have HKD := Lib.hid hkid
  have HNE := Lib.hid (And.intro hio (And.intro hkx hki))
  obtain ⟨pi, hpi'⟩ : ∃ q, (nd N i).p = q := ⟨_, rfl⟩
  obtain ⟨pk, hpk'⟩ : ∃ q, (nd N k).p = q := ⟨_, rfl⟩
  have HPP := Lib.hid (And.intro hpi' hpk')
  rw [hpi', hpk'] at HE HPL
  rw [hpi'] at HPI
  rw [hpk'] at HPK
  have hS : s.top < 2000 := by have := h.1.hg.lt s.top s.top_mem; omega
  have HST := Lib.hid hS
  unfold trv at ci ca ⊢
  clear b1 hN h hsm hnx hni hnk hpi hpk c2 c3 hTr hLay hsP hkid hpa hio hkx hki hp hk hl ho hxa hpi' hpk' hS
  go_enter Try.func113, Try.ntmps113
  go_upto_region 5 with (first
    | (go_at_call 125; ((with_reducible refine ci.mono ?_); clear ci; rintro e w3 ⟨rfl, hb3⟩; have HB3 := Lib.hid (bel2 HB.out hb3); have B1 := Lib.hid (B0.out.keep hb3); have R1 := Lib.hid (R0.out.keep hb3); clear hb3; have k0 := B1.out.at_ 0 _ rfl; have k1 := B1.out.at_ 1 _ rfl))
    | (go_at_call 126; ((with_reducible refine (ca _ (HN.out.keep HB3.out)).mono ?_); clear ca; rintro e w4 ⟨rfl, hb4⟩; have HB4 := Lib.hid (bel2 HB3.out hb4); have B2 := Lib.hid (B1.out.keep hb4); have R2 := Lib.hid (R1.out.keep hb4); clear hb4 k0 k1; have k0 := B2.out.at_ 0 _ rfl; have k1 := B2.out.at_ 1 _ rfl; have e2 := kc HB4.out HE.out.1; have e3 := kc HB4.out HE.out.2.1))
    | fail)
  go_quiet (fail)
  go_upto_region 7 with (fail)
  go_quiet (fail)
  go_upto_region 9 with (go_at_call 127; ((with_reducible refine (cn _ (HN.out.keep (below_drewN HB4.out _))).mono ?_); clear cn; rintro e w5 ⟨aM, cM, M, rfl, hMM, hR⟩))
  have hbx : Below w4.heap.size w4 w5 := bel2 (below_drewN (Below.refl w4.heap.size w4) _) hR.b
  have K0 := Lib.hid (show KS w t (some ⟨b, of, none⟩) cap N w5 from ⟨B2.out.keep hbx, R2.out.keep hbx, bel2 HB4.out hbx⟩)
  have hML : M.length = N.length := by have := congrArg List.length hMM; simpa using this
  obtain ⟨mk, hmk⟩ : ∃ mk, M[k]? = some mk := ⟨_, List.getElem?_eq_getElem (by omega)⟩
  obtain ⟨g, rfl, -, -, -⟩ := hR.r.at hmk
  have HGW := Lib.hid (show w.heap.size + 1 < g from Nat.lt_of_lt_of_le R2.out.lt (hR.own g rfl))
  have HGL := Lib.hid (show g < w5.heap.size from by obtain ⟨g', e, _, hna, _⟩ := hR.r.at hmk; cases e; exact World.block_lt_of_cell? w5 _ hna.c0)
  have HR := Lib.hid hR.r
  have HMM := Lib.hid (And.intro hMM hML)
  have HMK := Lib.hid hmk
  clear hbx hR hML hmk hMM k0 k1 e2 e3
  have BY := Lib.hid ((Bk.new w5 #[.slice pai pi.length pci, .slice pak pk.length pck] 42).drew)
  have K2 := Lib.hid ((K0.out.keep (al1 (.cells #[.slice pai pi.length pci, .slice pak pk.length pck] 42))).keep (Below.refl _ _).drew)
  have HR2 := Lib.hid ((HR.out.keep (al1 (.cells #[.slice pai pi.length pci, .slice pak pk.length pck] 42))).keep (Below.refl _ _).drew)
  have cc := pcat2 (W := (w5.alloc (.cells #[.slice pai pi.length pci, .slice pak pk.length pck] 42)).drew) (HPI.out.below K2.out.b) (HPK.out.below K2.out.b) rfl rfl (by have := HPL.out; omega) w5.heap.size (BY.out.at_ 0 _ rfl) (BY.out.at_ 1 _ rfl)
  unfold RowIs at cc
  obtain ⟨PJ, hPJ⟩ : ∃ q, pi ++ pk = q := ⟨_, rfl⟩
  rw [hPJ] at cc
  have HPJ := Lib.hid hPJ
  clear hPJ
  refine wp_region_held_drew (S := (fun W => W.cell? ⟨w.heap.size, 0, none⟩ = some (.int .i64 t) ∧ W.cell? ⟨w.heap.size, 1, none⟩ = some (.slice (some ⟨b, of, none⟩) N.length cap) ∧ W.cell? ⟨b, of + i * 6 + 4, none⟩ = some (.slice pai pi.length pci) ∧ W.cell? ⟨b, of + k * 6 + 4, none⟩ = some (.slice pak pk.length pck) ∧ KS w t (some ⟨b, of, none⟩) cap N W)) (by kernel_rfl) (by first | exact KS.four K0.out HE.out.2.2.1 HE.out.2.2.2 | exact KS.four (K0.out.keep (Below.refl _ _).drew) HE.out.2.2.1 HE.out.2.2.2) (fun hHeld => ?_)
  refine tk 0 ?_ rfl (by kernel_rfl) (fun _ _ _ h => h) ⟨by rfl, ?_⟩ hHeld ?_; rotate_left
  · intro wS hSw; (try dsimp only at hSw); (try go_split_ands); go_simp; try with_reducible rfl
  refine tk 1 ?_ rfl (by kernel_rfl) (fun _ _ _ h => h) ⟨by rfl, ?_⟩ hHeld ?_; rotate_left
  · intro wS hSw; (try dsimp only at hSw); (try go_split_ands); go_simp; try with_reducible rfl
  refine tk 2 ?_ rfl (by kernel_rfl) (fun _ _ _ h => h) ⟨by rfl, ?_⟩ hHeld ?_; rotate_left
  · intro wS hSw; (try dsimp only at hSw); (try go_split_ands); go_simp; try with_reducible rfl
  refine tk 3 ?_ rfl (by kernel_rfl) (fun _ _ _ h => h) ⟨by rfl, ?_⟩ hHeld ?_; rotate_left
  · intro wS hSw; (try dsimp only at hSw); (try go_split_ands); go_simp; try with_reducible rfl
  refine tk 4 ?_ rfl (by kernel_rfl) (fun _ _ _ h => h) ⟨by rfl, ?_⟩ hHeld ?_; rotate_left
  · intro wS hSw; (try dsimp only at hSw); (try go_split_ands); go_simp; try with_reducible rfl
  refine tk 5 ?_ rfl (by kernel_rfl) (fun _ _ _ h => h) ⟨by rfl, ?_⟩ hHeld ?_; rotate_left
  · intro wS hSw; (try dsimp only at hSw); (try go_split_ands); go_simp; try with_reducible rfl
  refine tk 6 ?_ rfl (by kernel_rfl) (fun _ _ _ h => h) ⟨by rfl, ?_⟩ hHeld ?_; rotate_left
  · intro wS hSw; (try dsimp only at hSw); (try go_split_ands); go_simp; try with_reducible rfl
  refine tk 7 ?_ rfl (by kernel_rfl) (fun _ _ _ h => h) ⟨by rfl, ?_⟩ hHeld ?_; rotate_left
  · intro wS hSw; (try dsimp only at hSw); (try go_split_ands); go_simp; try with_reducible rfl
  refine tk 8 ?_ rfl (by kernel_rfl) (fun _ _ _ h => h) ⟨by rfl, ?_⟩ hHeld ?_; rotate_left
  · intro wS hSw; (try dsimp only at hSw); (try go_split_ands); go_simp; try with_reducible rfl
  refine tk 9 ?_ rfl (by kernel_rfl) (fun _ _ _ h => h) ⟨by rfl, ?_⟩ hHeld ?_; rotate_left
  · intro wS hSw; (try dsimp only at hSw); (try go_split_ands); go_simp; try with_reducible rfl
  refine tk 10 ?_ rfl (by kernel_rfl) (fun _ _ _ h => h) ⟨by rfl, ?_⟩ hHeld ?_; rotate_left
  · intro wS hSw; (try dsimp only at hSw); (try go_split_ands); go_simp; try with_reducible rfl
  refine tk 11 ?_ rfl (by kernel_rfl) (fun _ _ _ h => h) ⟨by rfl, ?_⟩ hHeld ?_; rotate_left
  · intro wS hSw; (try dsimp only at hSw); (try go_split_ands); go_simp; try with_reducible rfl
  refine tk 12 ?_ rfl (by kernel_rfl) (fun _ _ _ h => h) ⟨by rfl, ?_⟩ hHeld ?_; rotate_left
  · intro wS hSw; (try dsimp only at hSw); (try go_split_ands); go_simp; try with_reducible rfl
  refine tk 13 ?_ rfl (by kernel_rfl) (fun _ _ _ h => h) ⟨by rfl, ?_⟩ hHeld ?_; rotate_left
  · intro wS hSw; (try dsimp only at hSw); (try go_split_ands); go_simp; try with_reducible rfl
  try simp only [List.getElem_toArray, List.getElem_cons_succ, List.getElem_cons_zero, Act.put, List.setIfInBounds_toArray, List.set_cons_zero, List.set_cons_succ]
  refine wpAnyH_ready (rs := [14]) (by kernel_rfl) (by simp) ?_
  refine AllReadyH.cons rfl (fun K hK => ?_) AllReadyH.nil
  go_simp
  refine hK.out _ _ ?_ (fun hNext => ?_)
  · exact KS.four (hHeld.2.2.2.2.keep (al1 _)) HE.out.2.2.1 HE.out.2.2.2
  clear hK K hHeld
  have hHeld := hNext
  clear hNext
  try simp only [List.getElem_toArray, List.getElem_cons_succ, List.getElem_cons_zero, Act.put, List.setIfInBounds_toArray, List.set_cons_zero, List.set_cons_succ]
  refine wpAnyH_ready (rs := [15]) (by kernel_rfl) (by simp) ?_
  refine AllReadyH.cons rfl (fun K hK => ?_) AllReadyH.nil
  go_simp
  (go_at_call 118; ((with_reducible refine cc.mono ?_); rintro e X ⟨ao, cp, rfl, hRow, hbX⟩))
  refine hK.out _ _ ?_ (fun hNext => ?_)
  · exact KS.four (K2.out.keep hbX) HE.out.2.2.1 HE.out.2.2.2
  have HKX := Lib.hid hNext.2.2.2.2
  have HR3 := Lib.hid (HR2.out.keep hbX)
  have HPR := Lib.hid (show Prs X ao cp PJ ∧ ∀ bb oo sp, ao = some ⟨bb, oo, sp⟩ → g ≠ bb from ⟨hRow.prs rfl, fun bb oo sp e e2 => by
    have h1 : ¬ bb < ((w5.alloc (.cells #[.slice pai pi.length pci, .slice pak pk.length pck] 42)).drew).heap.size := hRow.av bb (by rw [e]; rfl)
    have h2 := HGL.out
    have h3 := K2.out.b.size
    subst e2
    exact h1 (by simp only [World.size_drew, World.size_alloc]; omega)⟩)
  clear hRow hbX
  clear hK K hHeld
  have hHeld := hNext
  clear hNext
  try simp only [List.getElem_toArray, List.getElem_cons_succ, List.getElem_cons_zero, Act.put, List.setIfInBounds_toArray, List.set_cons_zero, List.set_cons_succ]
  refine tk 16 ?_ rfl (by kernel_rfl) (fun _ _ _ h => h) ⟨by rfl, ?_⟩ hHeld ?_; rotate_left
  · intro wS hSw; (try dsimp only at hSw); (try go_split_ands); go_simp; try with_reducible rfl
  refine tk 17 ?_ rfl (by kernel_rfl) (fun _ _ _ h => h) ⟨by rfl, ?_⟩ hHeld ?_; rotate_left
  · intro wS hSw; (try dsimp only at hSw); (try go_split_ands); go_simp; try with_reducible rfl
  try simp only [List.getElem_toArray, List.getElem_cons_succ, List.getElem_cons_zero, Act.put, List.setIfInBounds_toArray, List.set_cons_zero, List.set_cons_succ]
  obtain ⟨g9, e9, -, hna, hfz⟩ := HR3.out.at HMK.out
  cases e9
  obtain ⟨y0, y1, y2, y3, y4, y5, -⟩ := hna
  refine wpAnyH_ready (rs := [18]) (by kernel_rfl) (by simp) ?_
  refine AllReadyH.cons rfl (fun K hK => ?_) AllReadyH.nil
  go_simp
  have T9 := Lib.hid (HR3.out.six HMK.out ⟨⟨false, 0, 0, 0, PJ, 0⟩, ao, cp⟩ HPR.out.1 (fun _ bb oo sp e => ⟨fun h => h, HPR.out.2 bb oo sp e⟩))
  have O9 := Lib.hid (only_six (S := fun j => j = g) (v0 := .bool false) (v1 := .int .i64 0) (v2 := .int .i64 0) (v3 := .int .i64 0) (v4 := .slice ao PJ.length cp) (v5 := .int .i64 0) (j := k * 6) (Only.refl _ X) (.inl rfl))
  refine hK.out _ _ ?_ (fun hNext => ?_)
  · exact KS.four (HKX.out.six HGW.out O9.out) HE.out.2.2.1 HE.out.2.2.2
  clear hK K hHeld
  have hHeld := hNext
  clear hNext
  try simp only [List.getElem_toArray, List.getElem_cons_succ, List.getElem_cons_zero, Act.put, List.setIfInBounds_toArray, List.set_cons_zero, List.set_cons_succ]
  refine wpAnyH_done (by kernel_rfl) ?_ _
  have K9 := Lib.hid (HKX.out.six HGW.out O9.out)
  clear hHeld y0 y1 y2 y3 y4 y5 hfz
  generalize ((((((World.setCell X ⟨g, k * 6, none⟩ _).setCell _ _).setCell _ _).setCell _ _).setCell _ _).setCell _ _ : World) = X9 at T9 O9 K9 ⊢
  obtain ⟨M1, hM1⟩ : ∃ q, M.set k ⟨⟨false, 0, 0, 0, PJ, 0⟩, ao, cp⟩ = q := ⟨_, rfl⟩
  rw [hM1] at T9
  have hM1n : M1.map (fun m => m.n) = N.set k (⟨false, 0, 0, 0, PJ, 0⟩ : Nd) := by rw [← hM1, List.map_set, HMM.out.1]
  have hM1l : M1.length = N.length := by have := congrArg List.length hM1n; simpa using this
  obtain ⟨mo, hmo⟩ : ∃ mo, M1[o]? = some mo := ⟨_, List.getElem?_eq_getElem (by omega)⟩
  obtain ⟨mx, hmx⟩ : ∃ mx, M1[x]? = some mx := ⟨_, List.getElem?_eq_getElem (by omega)⟩
  obtain ⟨g9, e9, -, hnao, -⟩ := T9.out.at hmo
  cases e9
  obtain ⟨g9, e9, -, hnax, hfz⟩ := T9.out.at hmx
  cases e9
  have hsep : mo.n.p ≠ [] → ∀ bb oo sp, mo.a = some ⟨bb, oo, sp⟩ → ¬ False ∧ g ≠ bb := fun h bb oo sp e => ⟨fun h => h, fun e2 => (((T9.out.prs mo (List.mem_of_getElem? hmo)).2 h bb oo sp e).2) (by rw [← e2]; rfl)⟩
  have T10 := Lib.hid (T9.out.six hmx mo hnao.ps hsep)
  have O10 := Lib.hid (only_six (S := fun j => j = g) (v0 := .bool mo.n.r) (v1 := .int .i64 mo.n.k) (v2 := .int .i64 mo.n.a) (v3 := .int .i64 mo.n.b) (v4 := .slice mo.a mo.n.p.length mo.c) (v5 := .int .i64 mo.n.s) (j := x * 6) (Only.refl _ X9) (.inl rfl))
  have hmg : merged N i k false = ⟨false, 0, 0, 0, PJ, 0⟩ := by
    unfold merged
    rw [HPP.out.1, HPP.out.2, ← HPJ.out]; rfl
  have hmon : nd (N.set k (⟨false, 0, 0, 0, PJ, 0⟩ : Nd)) o = mo.n := nd_of (by rw [← hM1n, List.getElem?_map, hmo]; rfl)
  have hJ : (M1.set x mo).map (fun m => m.n) = joiN N i k x o false := by
    unfold joiN
    rw [List.map_set, hM1n, hmg, hmon]
  have HJ := Lib.hid hJ
  have K10 := Lib.hid (K9.out.six HGW.out O10.out)
  obtain ⟨y0, y1, y2, y3, y4, y5, -⟩ := hnao
  obtain ⟨z0, z1, z2, z3, z4, z5, -⟩ := hnax
  obtain ⟨⟨ro, ko, lo, bo, po, so⟩, ma, mc⟩ := mo
  dsimp only at y0 y1 y2 y3 y4 y5 T10 O10
  have k0 := K9.out.g.at_ 0 _ rfl
  have k1 := K9.out.g.at_ 1 _ rfl
  have hg9 : X9.frozen? ⟨g, x * 6, none⟩ = false := hfz _
  clear hM1 hM1n hM1l hmo hmx hsep hmg hmon hJ
  go_upto_region 11 with (fail)
  first | generalize ((((((World.setCell X9 ⟨g, x * 6, none⟩ _).setCell _ _).setCell _ _).setCell _ _).setCell _ _).setCell _ _ : World) = X10 at T10 O10 K10 ⊢ | fail
  have NsJ := T10.out.ns.2
  rw [HJ.out] at NsJ
  have cwo : ∀ (W : World), Below X10.heap.size X10 W → ∀ (ga : Nat), RI W (some ⟨ga, 0, none⟩) 2 [(i : Int), (o : Int)] → Calls Try.prog 128 #[.agg #[.int .i64 t, .slice (some ⟨g, 0, none⟩) N.length cM], .slice (some ⟨ga, 0, none⟩) 2 2] W (TnIs W ((shf i o s.top : Nat) : Int) (drp (joiN N i k x o false) i o N.length)) := by
    intro W hb ga hR
    have h := without_any s.top (some ⟨g, 0, none⟩) cM (joiN N i k x o false) i o (some ⟨ga, 0, none⟩) 2 W (NsJ.keep hb) (by rw [joiN_len]; omega) hR HNE.out.1 (by have := HST.out; omega) (fun z hz hzr => by
      obtain ⟨u, v, e1, e2, h1, h2⟩ := HKD.out z (by rw [joiN_len] at hz; exact hz) hzr
      exact ⟨u, v, e1, e2, by omega, by omega⟩)
    unfold trv at h
    rw [joiN_len, ← HTOP.out] at h
    exact h
  have cpl : ∀ (W : World) (a8 : Option Addr) (c8 : Nat), Ns W a8 c8 (drp (joiN N i k x o false) i o N.length) → Calls Try.prog 73 #[trv ((shf i o s.top : Nat) : Int) a8 c8 (drp (joiN N i k x o false) i o N.length)] W (PlW W P) := by
    intro W a8 c8 hn
    have h := tplain_own ((shf i o s.top : Nat) : Int) a8 c8 _ W hn HSP.out s' HTR.out
    rw [HLY.out] at h
    exact h
  unfold trv PlW at cpl
  unfold TnIs at cwo
  generalize drp (joiN N i k x o false) i o N.length = D at *
  generalize shf i o s.top = tn at *
  have k0 := K10.out.g.at_ 0 _ rfl
  have k1 := K10.out.g.at_ 1 _ rfl
  clear NsJ y0 y1 y2 y3 y4 y5 z0 z1 z2 z3 z4 z5 hfz hg9
  go_wp2_with (first
    | (go_at_call 128; ((with_reducible refine (cwo _ (al1 _) _ (ri_two _ _ _)).mono ?_); clear cwo; rintro e X12 ⟨a8, c8, rfl, hn8, hb8⟩; have HN8 := Lib.hid hn8; have K12 := Lib.hid (K10.out.keep (bel2 (al1 (.cells #[.int .i64 (i : Int), .int .i64 (o : Int)] 3)) hb8)); clear hn8 hb8 k0 k1))
    | (go_at_call 73; ((with_reducible refine (cpl _ _ _ HN8.out).mono ?_); clear cpl; rintro e X13 ⟨a9, c9, rfl, hn9, hb9⟩; have HN9 := Lib.hid (hn9.low (B' := w.heap.size + 2) (by have := K12.out.r.lt; omega)); have K13 := Lib.hid (K12.out.keep hb9); clear hn9 hb9; have r0 := K13.out.r.c0; have r1 := K13.out.r.c1; have f0 := K13.out.r.fr 0; have f1 := K13.out.r.fr 1))
    | fail)
  exact bodyPost_ret (v := .tuple #[.agg #[.int .i64 0, .slice a9 P.length c9], .bool true]) (by simp [results, Try.results113, go_sem, r0, r1]) rfl ⟨a9, c9, rfl, (HN9.out.ret (q := w.heap.size + 1) (by omega) _ _).low (by omega), ret_below K13.out.b (by omega) _ _⟩
set_option maxRecDepth 100000 in
set_option maxHeartbeats 6400000 in
theorem join_right (t : Int) (a : Option Addr) (cap : Nat) (N : List Nd) (s : Sh) (i k x o : Nat) (w : World) (hN : Ns w a cap N) (hsm : Small N) (h : LfAt N t (i : Int) s i) (hl : isLf i s = false)
    (hp : parA i s = some (x, true)) (hk : nextA i s = some k) (P : List Nd)
    (ho : (nd N x).a = (o : Int)) (hil : i < N.length) (hkl : k < N.length) (hxl : x < N.length) (hol : o < N.length) (hio : i ≠ o) (hkx : k ≠ x) (hki : i ≠ k) (hpa : ∀ n, PaO N i n → n = x)
    (hkid : ∀ z < N.length, (nd (joiN N i k x o true) z).r = true → ∃ u v : Nat, (nd (joiN N i k x o true) z).a = u ∧ (nd (joiN N i k x o true) z).b = v ∧ u < N.length ∧ v < N.length)
    (s' : Sh) (hTr : Tr (drp (joiN N i k x o true) i o N.length) s' ((shf i o s.top : Nat) : Int)) (hLay : lay (drp (joiN N i k x o true) i o N.length) s' 0 = P) (hsP : Small (drp (joiN N i k x o true) i o N.length)) :
    Calls Try.prog 113 #[trv t a cap N, .int .i64 (i : Int)] w (PlW w P) := by
  have b1 : Below w.heap.size w ((w.alloc (.cells #[.int .i64 t, .slice a N.length cap] 24)).alloc (.cells #[.int .i64 0, .slice none 0 0] 24)) := bel1 (al1 _) _
  have ci := next_yes t a cap N s i k _ (hN.keep b1) hsm h hl hk
  have ca := fun (W : World) (hW : Ns W a cap N) => above_any t a cap N (i : Int) W hW (by have := hsm.1; omega) (x : Int) true hpa (decide_eq_true (by omega))
  have B0 := Lib.hid (show Bk ((w.alloc (.cells #[.int .i64 t, .slice a N.length cap] 24)).alloc (.cells #[.int .i64 0, .slice none 0 0] 24)) w.heap.size [.int .i64 t, .slice a N.length cap] from (Bk.new w #[.int .i64 t, .slice a N.length cap] 24).past _)
  have R0 := Lib.hid (show Rq ((w.alloc (.cells #[.int .i64 t, .slice a N.length cap] 24)).alloc (.cells #[.int .i64 0, .slice none 0 0] 24)) (w.heap.size + 1) from by
    have h := Rq.new (w.alloc (.cells #[.int .i64 t, .slice a N.length cap] 24))
    simp only [World.size_alloc] at h; exact h)
  have HB := Lib.hid b1
  have hc1 := hN.1
  have hc2 := hN.2.1
  have hNl := hsm.1
  unfold maxLen at hc2
  have cn := fun (W : World) (hW : Ns W a cap N) => nclone_any a cap N W hW (by omega) (by omega)
  unfold NdIs at cn
  have hi0 : (0 : Int) ≤ (i : Int) := by omega
  have hi1 : (i : Int) < (N.length : Int) := by omega
  have hk0 : (0 : Int) ≤ (k : Int) := by omega
  have hk1 : (k : Int) < (N.length : Int) := by omega
  have hx0 : (0 : Int) ≤ (x : Int) := by omega
  have hx1 : (x : Int) < (N.length : Int) := by omega
  have ho0 : (0 : Int) ≤ (o : Int) := by omega
  have ho1 : (o : Int) < (N.length : Int) := by omega
  have HN := Lib.hid hN
  have hne : ((o : Int) == (i : Int)) = false := by simp; omega
  obtain ⟨b, of, pax, pcx, rfl, hnx⟩ := hN.2.2 x _ (nd_get hxl)
  obtain ⟨b', of', pai, pci, e', hni⟩ := hN.2.2 i _ (nd_get hil)
  cases e'
  obtain ⟨b', of', pak, pck, e', hnk⟩ := hN.2.2 k _ (nd_get hkl)
  cases e'
  have c2 := hnx.c2
  have c3 := hnx.c3
  rw [ho] at c2
  have HE := Lib.hid (And.intro c2 (And.intro c3 (And.intro hni.c4 hnk.c4)))
  have HPI := Lib.hid hni.ps
  have HPK := Lib.hid hnk.ps
  have hpi := hsm.at (nd_get hil)
  have hpk := hsm.at (nd_get hkl)
  have HPL := Lib.hid (And.intro hpi hpk)
  have HTOP := Lib.hid (show t = (s.top : Int) from h.1.hg.top)
  have HTR := Lib.hid hTr
  have HLY := Lib.hid hLay
  have HSP := Lib.hid hsP
  have HKD := Lib.hid hkid
  have HNE := Lib.hid (And.intro hio (And.intro hkx hki))
  obtain ⟨pi, hpi'⟩ : ∃ q, (nd N i).p = q := ⟨_, rfl⟩
  obtain ⟨pk, hpk'⟩ : ∃ q, (nd N k).p = q := ⟨_, rfl⟩
  have HPP := Lib.hid (And.intro hpi' hpk')
  rw [hpi', hpk'] at HE HPL
  rw [hpi'] at HPI
  rw [hpk'] at HPK
  have hS : s.top < 2000 := by have := h.1.hg.lt s.top s.top_mem; omega
  have HST := Lib.hid hS
  unfold trv at ci ca ⊢
  clear b1 hN h hsm hnx hni hnk hpi hpk c2 c3 hTr hLay hsP hkid hpa hio hkx hki hp hk hl ho hpi' hpk' hS
  go_enter Try.func113, Try.ntmps113
  go_upto_region 5 with (first
    | (go_at_call 125; ((with_reducible refine ci.mono ?_); clear ci; rintro e w3 ⟨rfl, hb3⟩; have HB3 := Lib.hid (bel2 HB.out hb3); have B1 := Lib.hid (B0.out.keep hb3); have R1 := Lib.hid (R0.out.keep hb3); clear hb3; have k0 := B1.out.at_ 0 _ rfl; have k1 := B1.out.at_ 1 _ rfl))
    | (go_at_call 126; ((with_reducible refine (ca _ (HN.out.keep HB3.out)).mono ?_); clear ca; rintro e w4 ⟨rfl, hb4⟩; have HB4 := Lib.hid (bel2 HB3.out hb4); have B2 := Lib.hid (B1.out.keep hb4); have R2 := Lib.hid (R1.out.keep hb4); clear hb4 k0 k1; have k0 := B2.out.at_ 0 _ rfl; have k1 := B2.out.at_ 1 _ rfl; have e2 := kc HB4.out HE.out.1; have e3 := kc HB4.out HE.out.2.1))
    | fail)
  go_quiet (fail)
  go_upto_region 9 with (go_at_call 127; ((with_reducible refine (cn _ (HN.out.keep (below_drewN HB4.out _))).mono ?_); clear cn; rintro e w5 ⟨aM, cM, M, rfl, hMM, hR⟩))
  have hbx : Below w4.heap.size w4 w5 := bel2 (below_drewN (Below.refl w4.heap.size w4) _) hR.b
  have K0 := Lib.hid (show KS w t (some ⟨b, of, none⟩) cap N w5 from ⟨B2.out.keep hbx, R2.out.keep hbx, bel2 HB4.out hbx⟩)
  have hML : M.length = N.length := by have := congrArg List.length hMM; simpa using this
  obtain ⟨mk, hmk⟩ : ∃ mk, M[k]? = some mk := ⟨_, List.getElem?_eq_getElem (by omega)⟩
  obtain ⟨g, rfl, -, -, -⟩ := hR.r.at hmk
  have HGW := Lib.hid (show w.heap.size + 1 < g from Nat.lt_of_lt_of_le R2.out.lt (hR.own g rfl))
  have HGL := Lib.hid (show g < w5.heap.size from by obtain ⟨g', e, _, hna, _⟩ := hR.r.at hmk; cases e; exact World.block_lt_of_cell? w5 _ hna.c0)
  have HR := Lib.hid hR.r
  have HMM := Lib.hid (And.intro hMM hML)
  have HMK := Lib.hid hmk
  clear hbx hR hML hmk hMM k0 k1 e2 e3
  have BY := Lib.hid ((Bk.new w5 #[.slice pak pk.length pck, .slice pai pi.length pci] 42).drew)
  have K2 := Lib.hid ((K0.out.keep (al1 (.cells #[.slice pak pk.length pck, .slice pai pi.length pci] 42))).keep (Below.refl _ _).drew)
  have HR2 := Lib.hid ((HR.out.keep (al1 (.cells #[.slice pak pk.length pck, .slice pai pi.length pci] 42))).keep (Below.refl _ _).drew)
  have cc := pcat2 (W := (w5.alloc (.cells #[.slice pak pk.length pck, .slice pai pi.length pci] 42)).drew) (HPK.out.below K2.out.b) (HPI.out.below K2.out.b) rfl rfl (by have := HPL.out; omega) w5.heap.size (BY.out.at_ 0 _ rfl) (BY.out.at_ 1 _ rfl)
  unfold RowIs at cc
  obtain ⟨PJ, hPJ⟩ : ∃ q, pk ++ pi = q := ⟨_, rfl⟩
  rw [hPJ] at cc
  have HPJ := Lib.hid hPJ
  clear hPJ
  refine wp_region_held_drew (S := (fun W => W.cell? ⟨w.heap.size, 0, none⟩ = some (.int .i64 t) ∧ W.cell? ⟨w.heap.size, 1, none⟩ = some (.slice (some ⟨b, of, none⟩) N.length cap) ∧ W.cell? ⟨b, of + i * 6 + 4, none⟩ = some (.slice pai pi.length pci) ∧ W.cell? ⟨b, of + k * 6 + 4, none⟩ = some (.slice pak pk.length pck) ∧ KS w t (some ⟨b, of, none⟩) cap N W)) (by kernel_rfl) (by first | exact KS.four K0.out HE.out.2.2.1 HE.out.2.2.2 | exact KS.four (K0.out.keep (Below.refl _ _).drew) HE.out.2.2.1 HE.out.2.2.2) (fun hHeld => ?_)
  refine tk 0 ?_ rfl (by kernel_rfl) (fun _ _ _ h => h) ⟨by rfl, ?_⟩ hHeld ?_; rotate_left
  · intro wS hSw; (try dsimp only at hSw); (try go_split_ands); go_simp; try with_reducible rfl
  refine tk 1 ?_ rfl (by kernel_rfl) (fun _ _ _ h => h) ⟨by rfl, ?_⟩ hHeld ?_; rotate_left
  · intro wS hSw; (try dsimp only at hSw); (try go_split_ands); go_simp; try with_reducible rfl
  refine tk 2 ?_ rfl (by kernel_rfl) (fun _ _ _ h => h) ⟨by rfl, ?_⟩ hHeld ?_; rotate_left
  · intro wS hSw; (try dsimp only at hSw); (try go_split_ands); go_simp; try with_reducible rfl
  refine tk 3 ?_ rfl (by kernel_rfl) (fun _ _ _ h => h) ⟨by rfl, ?_⟩ hHeld ?_; rotate_left
  · intro wS hSw; (try dsimp only at hSw); (try go_split_ands); go_simp; try with_reducible rfl
  refine tk 4 ?_ rfl (by kernel_rfl) (fun _ _ _ h => h) ⟨by rfl, ?_⟩ hHeld ?_; rotate_left
  · intro wS hSw; (try dsimp only at hSw); (try go_split_ands); go_simp; try with_reducible rfl
  refine tk 5 ?_ rfl (by kernel_rfl) (fun _ _ _ h => h) ⟨by rfl, ?_⟩ hHeld ?_; rotate_left
  · intro wS hSw; (try dsimp only at hSw); (try go_split_ands); go_simp; try with_reducible rfl
  refine tk 6 ?_ rfl (by kernel_rfl) (fun _ _ _ h => h) ⟨by rfl, ?_⟩ hHeld ?_; rotate_left
  · intro wS hSw; (try dsimp only at hSw); (try go_split_ands); go_simp; try with_reducible rfl
  refine tk 7 ?_ rfl (by kernel_rfl) (fun _ _ _ h => h) ⟨by rfl, ?_⟩ hHeld ?_; rotate_left
  · intro wS hSw; (try dsimp only at hSw); (try go_split_ands); go_simp; try with_reducible rfl
  refine tk 8 ?_ rfl (by kernel_rfl) (fun _ _ _ h => h) ⟨by rfl, ?_⟩ hHeld ?_; rotate_left
  · intro wS hSw; (try dsimp only at hSw); (try go_split_ands); go_simp; try with_reducible rfl
  refine tk 9 ?_ rfl (by kernel_rfl) (fun _ _ _ h => h) ⟨by rfl, ?_⟩ hHeld ?_; rotate_left
  · intro wS hSw; (try dsimp only at hSw); (try go_split_ands); go_simp; try with_reducible rfl
  refine tk 10 ?_ rfl (by kernel_rfl) (fun _ _ _ h => h) ⟨by rfl, ?_⟩ hHeld ?_; rotate_left
  · intro wS hSw; (try dsimp only at hSw); (try go_split_ands); go_simp; try with_reducible rfl
  refine tk 11 ?_ rfl (by kernel_rfl) (fun _ _ _ h => h) ⟨by rfl, ?_⟩ hHeld ?_; rotate_left
  · intro wS hSw; (try dsimp only at hSw); (try go_split_ands); go_simp; try with_reducible rfl
  refine tk 12 ?_ rfl (by kernel_rfl) (fun _ _ _ h => h) ⟨by rfl, ?_⟩ hHeld ?_; rotate_left
  · intro wS hSw; (try dsimp only at hSw); (try go_split_ands); go_simp; try with_reducible rfl
  refine tk 13 ?_ rfl (by kernel_rfl) (fun _ _ _ h => h) ⟨by rfl, ?_⟩ hHeld ?_; rotate_left
  · intro wS hSw; (try dsimp only at hSw); (try go_split_ands); go_simp; try with_reducible rfl
  try simp only [List.getElem_toArray, List.getElem_cons_succ, List.getElem_cons_zero, Act.put, List.setIfInBounds_toArray, List.set_cons_zero, List.set_cons_succ]
  refine wpAnyH_ready (rs := [14]) (by kernel_rfl) (by simp) ?_
  refine AllReadyH.cons rfl (fun K hK => ?_) AllReadyH.nil
  go_simp
  refine hK.out _ _ ?_ (fun hNext => ?_)
  · exact KS.four (hHeld.2.2.2.2.keep (al1 _)) HE.out.2.2.1 HE.out.2.2.2
  clear hK K hHeld
  have hHeld := hNext
  clear hNext
  try simp only [List.getElem_toArray, List.getElem_cons_succ, List.getElem_cons_zero, Act.put, List.setIfInBounds_toArray, List.set_cons_zero, List.set_cons_succ]
  refine wpAnyH_ready (rs := [15]) (by kernel_rfl) (by simp) ?_
  refine AllReadyH.cons rfl (fun K hK => ?_) AllReadyH.nil
  go_simp
  (go_at_call 118; ((with_reducible refine cc.mono ?_); rintro e X ⟨ao, cp, rfl, hRow, hbX⟩))
  refine hK.out _ _ ?_ (fun hNext => ?_)
  · exact KS.four (K2.out.keep hbX) HE.out.2.2.1 HE.out.2.2.2
  have HKX := Lib.hid hNext.2.2.2.2
  have HR3 := Lib.hid (HR2.out.keep hbX)
  have HPR := Lib.hid (show Prs X ao cp PJ ∧ ∀ bb oo sp, ao = some ⟨bb, oo, sp⟩ → g ≠ bb from ⟨hRow.prs rfl, fun bb oo sp e e2 => by
    have h1 : ¬ bb < ((w5.alloc (.cells #[.slice pak pk.length pck, .slice pai pi.length pci] 42)).drew).heap.size := hRow.av bb (by rw [e]; rfl)
    have h2 := HGL.out
    have h3 := K2.out.b.size
    subst e2
    exact h1 (by simp only [World.size_drew, World.size_alloc]; omega)⟩)
  clear hRow hbX
  clear hK K hHeld
  have hHeld := hNext
  clear hNext
  try simp only [List.getElem_toArray, List.getElem_cons_succ, List.getElem_cons_zero, Act.put, List.setIfInBounds_toArray, List.set_cons_zero, List.set_cons_succ]
  refine tk 16 ?_ rfl (by kernel_rfl) (fun _ _ _ h => h) ⟨by rfl, ?_⟩ hHeld ?_; rotate_left
  · intro wS hSw; (try dsimp only at hSw); (try go_split_ands); go_simp; try with_reducible rfl
  refine tk 17 ?_ rfl (by kernel_rfl) (fun _ _ _ h => h) ⟨by rfl, ?_⟩ hHeld ?_; rotate_left
  · intro wS hSw; (try dsimp only at hSw); (try go_split_ands); go_simp; try with_reducible rfl
  try simp only [List.getElem_toArray, List.getElem_cons_succ, List.getElem_cons_zero, Act.put, List.setIfInBounds_toArray, List.set_cons_zero, List.set_cons_succ]
  obtain ⟨g9, e9, -, hna, hfz⟩ := HR3.out.at HMK.out
  cases e9
  obtain ⟨y0, y1, y2, y3, y4, y5, -⟩ := hna
  refine wpAnyH_ready (rs := [18]) (by kernel_rfl) (by simp) ?_
  refine AllReadyH.cons rfl (fun K hK => ?_) AllReadyH.nil
  go_simp
  have T9 := Lib.hid (HR3.out.six HMK.out ⟨⟨false, 0, 0, 0, PJ, 0⟩, ao, cp⟩ HPR.out.1 (fun _ bb oo sp e => ⟨fun h => h, HPR.out.2 bb oo sp e⟩))
  have O9 := Lib.hid (only_six (S := fun j => j = g) (v0 := .bool false) (v1 := .int .i64 0) (v2 := .int .i64 0) (v3 := .int .i64 0) (v4 := .slice ao PJ.length cp) (v5 := .int .i64 0) (j := k * 6) (Only.refl _ X) (.inl rfl))
  refine hK.out _ _ ?_ (fun hNext => ?_)
  · exact KS.four (HKX.out.six HGW.out O9.out) HE.out.2.2.1 HE.out.2.2.2
  clear hK K hHeld
  have hHeld := hNext
  clear hNext
  try simp only [List.getElem_toArray, List.getElem_cons_succ, List.getElem_cons_zero, Act.put, List.setIfInBounds_toArray, List.set_cons_zero, List.set_cons_succ]
  refine wpAnyH_done (by kernel_rfl) ?_ _
  have K9 := Lib.hid (HKX.out.six HGW.out O9.out)
  clear hHeld y0 y1 y2 y3 y4 y5 hfz
  generalize ((((((World.setCell X ⟨g, k * 6, none⟩ _).setCell _ _).setCell _ _).setCell _ _).setCell _ _).setCell _ _ : World) = X9 at T9 O9 K9 ⊢
  obtain ⟨M1, hM1⟩ : ∃ q, M.set k ⟨⟨false, 0, 0, 0, PJ, 0⟩, ao, cp⟩ = q := ⟨_, rfl⟩
  rw [hM1] at T9
  have hM1n : M1.map (fun m => m.n) = N.set k (⟨false, 0, 0, 0, PJ, 0⟩ : Nd) := by rw [← hM1, List.map_set, HMM.out.1]
  have hM1l : M1.length = N.length := by have := congrArg List.length hM1n; simpa using this
  obtain ⟨mo, hmo⟩ : ∃ mo, M1[o]? = some mo := ⟨_, List.getElem?_eq_getElem (by omega)⟩
  obtain ⟨mx, hmx⟩ : ∃ mx, M1[x]? = some mx := ⟨_, List.getElem?_eq_getElem (by omega)⟩
  obtain ⟨g9, e9, -, hnao, -⟩ := T9.out.at hmo
  cases e9
  obtain ⟨g9, e9, -, hnax, hfz⟩ := T9.out.at hmx
  cases e9
  have hsep : mo.n.p ≠ [] → ∀ bb oo sp, mo.a = some ⟨bb, oo, sp⟩ → ¬ False ∧ g ≠ bb := fun h bb oo sp e => ⟨fun h => h, fun e2 => (((T9.out.prs mo (List.mem_of_getElem? hmo)).2 h bb oo sp e).2) (by rw [← e2]; rfl)⟩
  have T10 := Lib.hid (T9.out.six hmx mo hnao.ps hsep)
  have O10 := Lib.hid (only_six (S := fun j => j = g) (v0 := .bool mo.n.r) (v1 := .int .i64 mo.n.k) (v2 := .int .i64 mo.n.a) (v3 := .int .i64 mo.n.b) (v4 := .slice mo.a mo.n.p.length mo.c) (v5 := .int .i64 mo.n.s) (j := x * 6) (Only.refl _ X9) (.inl rfl))
  have hmg : merged N i k true = ⟨false, 0, 0, 0, PJ, 0⟩ := by
    unfold merged
    rw [HPP.out.1, HPP.out.2, ← HPJ.out]; rfl
  have hmon : nd (N.set k (⟨false, 0, 0, 0, PJ, 0⟩ : Nd)) o = mo.n := nd_of (by rw [← hM1n, List.getElem?_map, hmo]; rfl)
  have hJ : (M1.set x mo).map (fun m => m.n) = joiN N i k x o true := by
    unfold joiN
    rw [List.map_set, hM1n, hmg, hmon]
  have HJ := Lib.hid hJ
  have K10 := Lib.hid (K9.out.six HGW.out O10.out)
  obtain ⟨y0, y1, y2, y3, y4, y5, -⟩ := hnao
  obtain ⟨z0, z1, z2, z3, z4, z5, -⟩ := hnax
  obtain ⟨⟨ro, ko, lo, bo, po, so⟩, ma, mc⟩ := mo
  dsimp only at y0 y1 y2 y3 y4 y5 T10 O10
  have k0 := K9.out.g.at_ 0 _ rfl
  have k1 := K9.out.g.at_ 1 _ rfl
  have hg9 : X9.frozen? ⟨g, x * 6, none⟩ = false := hfz _
  clear hM1 hM1n hM1l hmo hmx hsep hmg hmon hJ
  go_upto_region 11 with (fail)
  first | generalize ((((((World.setCell X9 ⟨g, x * 6, none⟩ _).setCell _ _).setCell _ _).setCell _ _).setCell _ _).setCell _ _ : World) = X10 at T10 O10 K10 ⊢ | fail
  have NsJ := T10.out.ns.2
  rw [HJ.out] at NsJ
  have cwo : ∀ (W : World), Below X10.heap.size X10 W → ∀ (ga : Nat), RI W (some ⟨ga, 0, none⟩) 2 [(i : Int), (o : Int)] → Calls Try.prog 128 #[.agg #[.int .i64 t, .slice (some ⟨g, 0, none⟩) N.length cM], .slice (some ⟨ga, 0, none⟩) 2 2] W (TnIs W ((shf i o s.top : Nat) : Int) (drp (joiN N i k x o true) i o N.length)) := by
    intro W hb ga hR
    have h := without_any s.top (some ⟨g, 0, none⟩) cM (joiN N i k x o true) i o (some ⟨ga, 0, none⟩) 2 W (NsJ.keep hb) (by rw [joiN_len]; omega) hR HNE.out.1 (by have := HST.out; omega) (fun z hz hzr => by
      obtain ⟨u, v, e1, e2, h1, h2⟩ := HKD.out z (by rw [joiN_len] at hz; exact hz) hzr
      exact ⟨u, v, e1, e2, by omega, by omega⟩)
    unfold trv at h
    rw [joiN_len, ← HTOP.out] at h
    exact h
  have cpl : ∀ (W : World) (a8 : Option Addr) (c8 : Nat), Ns W a8 c8 (drp (joiN N i k x o true) i o N.length) → Calls Try.prog 73 #[trv ((shf i o s.top : Nat) : Int) a8 c8 (drp (joiN N i k x o true) i o N.length)] W (PlW W P) := by
    intro W a8 c8 hn
    have h := tplain_own ((shf i o s.top : Nat) : Int) a8 c8 _ W hn HSP.out s' HTR.out
    rw [HLY.out] at h
    exact h
  unfold trv PlW at cpl
  unfold TnIs at cwo
  generalize drp (joiN N i k x o true) i o N.length = D at *
  generalize shf i o s.top = tn at *
  have k0 := K10.out.g.at_ 0 _ rfl
  have k1 := K10.out.g.at_ 1 _ rfl
  clear NsJ y0 y1 y2 y3 y4 y5 z0 z1 z2 z3 z4 z5 hfz hg9
  go_wp2_with (first
    | (go_at_call 128; ((with_reducible refine (cwo _ (al1 _) _ (ri_two _ _ _)).mono ?_); clear cwo; rintro e X12 ⟨a8, c8, rfl, hn8, hb8⟩; have HN8 := Lib.hid hn8; have K12 := Lib.hid (K10.out.keep (bel2 (al1 (.cells #[.int .i64 (i : Int), .int .i64 (o : Int)] 3)) hb8)); clear hn8 hb8 k0 k1))
    | (go_at_call 73; ((with_reducible refine (cpl _ _ _ HN8.out).mono ?_); clear cpl; rintro e X13 ⟨a9, c9, rfl, hn9, hb9⟩; have HN9 := Lib.hid (hn9.low (B' := w.heap.size + 2) (by have := K12.out.r.lt; omega)); have K13 := Lib.hid (K12.out.keep hb9); clear hn9 hb9; have r0 := K13.out.r.c0; have r1 := K13.out.r.c1; have f0 := K13.out.r.fr 0; have f1 := K13.out.r.fr 1))
    | fail)
  exact bodyPost_ret (v := .tuple #[.agg #[.int .i64 0, .slice a9 P.length c9], .bool true]) (by simp [results, Try.results113, go_sem, r0, r1]) rfl ⟨a9, c9, rfl, (HN9.out.ret (q := w.heap.size + 1) (by omega) _ _).low (by omega), ret_below K13.out.b (by omega) _ _⟩
theorem tlay_small {T : AT} (h1 : T.all.length ≤ 1100000) (h2 : T.sz ≤ 2000) : Small (T.lay 0) := ⟨by rw [AT.lay_len]; exact h2, fun n hn => Nat.le_trans (AT.lay_p n hn) h1⟩
/-- adapt.Join. -/
theorem join_own (t : Int) (a : Option Addr) (cap : Nat) (N : List Nd) (y : Int) (w : World) (hN : Ns w a cap N) (hsm : Small N) (hT : ∀ s, Tr N s t → (allP N s.lvs).length ≤ 1100000) (b : Bool) (Q : List Nd) (h : JoiO N t y b Q) :
    Calls Try.prog 113 #[trv t a cap N, .int .i64 y] w (PlBO w b Q) := by
  rcases h with ⟨rfl, s, i, T, h, hl, hj, rfl⟩ | ⟨rfl, rfl, h⟩
  · obtain rfl := h.2.1
    obtain ⟨x, b, k, m, nx, e1, e2, e3, e4, e5, e6⟩ := beside h.1 h.2.2 hl
    obtain ⟨T', o, j1, j2, j3, j4, j5, j6, j7, j8, j9, j10, j11, j12, j13, j14, s', j15, j16⟩ := join_drp h.1 h.2.2 hl e1 e2
    rw [hj] at j1
    cases j1
    obtain ⟨T'', f1, f2, f3, f4⟩ := joinA_is h.1.hg h.2.2 hl
    rw [hj] at f1
    cases f1
    have hsz := AT.sz_nl T
    have hsz2 := AT.sz_nl (ab N s)
    rw [ab_sz, ab_nl] at hsz2
    have h1 := h.1.all
    have h2 := h.1.le
    have hsmT : Small (T.lay 0) := tlay_small (by rw [f3]; exact hT s h.1) (by omega)
    have hnx := nd_of e3
    rcases e6 with ⟨rfl, fa, fb, fm, fm1⟩ | ⟨rfl, fa, fb, fm, fm1⟩
    · have hsP := small_of_lay j15 (by rw [j16]; exact hsmT)
      simp only [cond_false] at j2
      exact join_left t a cap N s i k x o w hN hsm h hl e1 e2 (T.lay 0) j2 (by rw [hnx]; exact fa) j4 j5 j6 j7 j8 j11 j12 e5 j14 s' j15 j16 hsP
    · have hsP := small_of_lay j15 (by rw [j16]; exact hsmT)
      simp only [cond_true] at j2
      exact join_right t a cap N s i k x o w hN hsm h hl e1 e2 (T.lay 0) j2 j4 j5 j6 j7 j8 j11 j12 e5 j14 s' j15 j16 hsP
  · exact (join_no t a cap N y w hN hsm h).mono (fun e w' hh => ⟨none, 0, hh.1, NsO.none _ _, hh.2⟩)
end Go.Proofs.Ytijepfabkalcoaa
