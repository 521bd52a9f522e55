/- lin.Find, Any: an order is found just if there is one, and what is found is right. No condition: lemmas. osierlaw20's short and awake; a parameter []api.Event with how wide its numbers are. No condition: lemmas. -/
import Derived.Test.YtadfnbmogobopaaLiP
import Derived.Test.YtadfnbmogobopaaOrG
import Derived.Test.YtadfnbmogobopaaPaF
namespace Go.Proofs.Ytadfnbmogobopaa
open Go.RowKit Go.Maps
set_option linter.all false
set_option maxRecDepth 20000

/-- What may be searched. -/
def okF (m : List Pr) (N : List EvD) : Prop := Srt m ∧ ∃ s, mtch N = some s ∧ s.l.length ≤ 16
def FdIs (w : World) (m : List Pr) (N : List EvD) (e : Ending) (w' : World) : Prop :=
  ∃ (B : Bool) (E : Int) (ao : Option Addr) (c : Nat) (l : List Int), e = .returned (.tuple #[.slice ao l.length c, .bool B, .int .i64 E]) ∧ Below w.heap.size w w' ∧ (okF m N → E = 0) ∧ (¬ okF m N → E = 1 ∧ B = false) ∧ (okF m N → (B = true ↔ ∃ l, ordR m N l)) ∧ (B = true → ordR m N l ∧ Nums w' (fun k => k < w.heap.size) (.slice ao l.length c) l) ∧ (B = false → ao = none ∧ c = 0 ∧ l = [])
theorem ops_wid {N : List EvD} {s : Mt} (h : mtch N = some s) (hw : ∀ e ∈ N, i64w e.o.v) : ∀ i, i < s.l.length → i64w (s.l.getD i zCl).o.v := fun i hi => by
  have I := minv N _ s h
  obtain ⟨_, ⟨e, p, _, h2, h3, _, _, h6⟩, _⟩ := I.has i (s.l.getD i zCl) (by rw [List.getD_eq_getElem?_getD, List.getElem?_eq_getElem hi]; rfl)
  rw [← h6]
  refine hw e ?_
  rw [← h3, List.getD_eq_getElem?_getD, List.getElem?_eq_getElem h2]
  exact List.getElem_mem h2
theorem pend_ok {N : List EvD} {s : Mt} (h : mtch N = some s) : ∀ i, i < s.l.length → (s.l.getD i zCl).g < 0 → (s.l.getD i zCl).a.err = 0 := fun i hi hg => by
  have I := minv N _ s h
  obtain ⟨_, _, h3⟩ := I.has i (s.l.getD i zCl) (by rw [List.getD_eq_getElem?_getD, List.getElem?_eq_getElem hi]; rfl)
  rcases h3 with ⟨_, _, h⟩ | ⟨_, q, h, _⟩
  · rw [h]; rfl
  · omega
theorem built_places : Try.prog.built 60 [] = some (bitsA (fun _ => false)) := by kernel_rfl
set_option maxRecDepth 100000 in
set_option maxHeartbeats 12800000 in
theorem find_any (a a1 : Option Addr) (cap cap1 : Nat) (m : List Pr) (N : List EvD) (w : World) (hm : Prs w a cap m) (hN : Es w a1 cap1 N) (sm : m.length ≤ 200) (sN : N.length ≤ 300) (sp : ∀ e ∈ N, e.a.ps.length ≤ 1100000) (hwm : widM m) (hwN : ∀ e ∈ N, i64w e.o.v) :
    Calls Try.prog 13 #[.slice a m.length cap, .slice a1 N.length cap1] w (FdIs w m N) := by
  have HM := Lib.hid hm
  have z1 := hm.1
  have z2 := hm.2.1
  have z3 := hN.1
  have z4 := hN.2.1
  unfold maxLen at z2 z4
  have cc := calls_any a1 cap1 N w hN sN sp _ rfl
  have cl := fun W (hb : Below w.heap.size w W) B hB => lmay_any a cap m W (hm.below hb) B hB
  have cp := fun W (hb : Below w.heap.size w W) B hB => may_anyP a1 cap1 N W (hN.keep hb) sN B hB
  have hmm := @run_makeMap Try.prog
  clear hm hN
  by_cases hs : Srt m
  rotate_left
  · have cl1 := fun W hb => cl W hb false (decide_eq_false hs)
    have HO : Hid (¬ okF m N) := Lib.hid (fun x => hs x.1)
    clear cl cp hs
    go_enter Try.func13, Try.ntmps13
    go_wp2_with (first
      | (go_at_call 17; ((with_reducible refine cc.mono ?_); clear cc; rintro e v1 ⟨ao, cp2, rfl, hcs, hb1⟩; have HB1 := Lib.hid hb1; have HCS := Lib.hid hcs; have hz1 := hcs.1; have hz2 := hcs.2.1; clear hb1 hcs))
      | (go_at_call 18; ((with_reducible refine (cl1 _ HB1.out).mono ?_); clear cl1; rintro e v2 ⟨rfl, hb2⟩; have HCS2 := Lib.hid (HCS.out.keep hb2); have HB2 := Lib.hid (pb2 HB1.out hb2); clear hb2))
      | fail)
    refine bodyPost_ret (v := .tuple #[.slice none 0 0, .bool false, .int .i64 1]) (by simp [results, Try.results13, go_sem]) rfl ⟨false, 1, none, 0, [], rfl, HB2.out, fun h => absurd h HO.out, fun _ => ⟨rfl, rfl⟩, fun h => absurd h HO.out, fun h => (by cases h), fun _ => ⟨rfl, rfl, rfl⟩⟩
  have cl1 := fun W hb => cl W hb true (decide_eq_true hs)
  have HS := Lib.hid hs
  cases hmt : mtch N with
  | none =>
    have cp1 := fun W hb => cp W hb false (by rw [hmt]; rfl)
    have HO : Hid (¬ okF m N) := Lib.hid (fun x => by obtain ⟨_, s, h, _⟩ := x; rw [hmt] at h; cases h)
    clear cl cp hs hmt
    go_enter Try.func13, Try.ntmps13
    go_wp2_with (first
      | (go_at_call 17; ((with_reducible refine cc.mono ?_); clear cc; rintro e v1 ⟨ao, cp2, rfl, hcs, hb1⟩; have HB1 := Lib.hid hb1; have HCS := Lib.hid hcs; have hz1 := hcs.1; have hz2 := hcs.2.1; clear hb1 hcs))
      | (go_at_call 18; ((with_reducible refine (cl1 _ HB1.out).mono ?_); clear cl1; rintro e v2 ⟨rfl, hb2⟩; have HCS2 := Lib.hid (HCS.out.keep hb2); have HB2 := Lib.hid (pb2 HB1.out hb2); clear hb2))
      | (go_at_call 19; ((with_reducible refine (cp1 _ HB2.out).mono ?_); clear cp1; rintro e v3 ⟨rfl, hb3⟩; have HCS3 := Lib.hid (HCS2.out.keep hb3); have HB3 := Lib.hid (pb2 HB2.out hb3); clear hb3))
      | fail)
    refine bodyPost_ret (v := .tuple #[.slice none 0 0, .bool false, .int .i64 1]) (by simp [results, Try.results13, go_sem]) rfl ⟨false, 1, none, 0, [], rfl, HB3.out, fun h => absurd h HO.out, fun _ => ⟨rfl, rfl⟩, fun h => absurd h HO.out, fun h => (by cases h), fun _ => ⟨rfl, rfl, rfl⟩⟩
  | some s =>
    have cp1 := fun W hb => cp W hb true (by rw [hmt]; rfl)
    rw [show callsL N = s.l by unfold callsL; rw [hmt]] at cc
    by_cases h16 : s.l.length ≤ 16
    rotate_left
    · have HO : Hid (¬ okF m N) := Lib.hid (fun x => by obtain ⟨_, s', h, h2⟩ := x; rw [hmt] at h; cases h; exact h16 h2)
      have h17 : (16 : Int) < (s.l.length : Int) := by omega
      have h17n : 16 < s.l.length := by omega
      clear cl cp hs hmt
      go_enter Try.func13, Try.ntmps13
      go_wp2_with (first
        | (go_at_call 17; ((with_reducible refine cc.mono ?_); clear cc; rintro e v1 ⟨ao, cp2, rfl, hcs, hb1⟩; have HB1 := Lib.hid hb1; have HCS := Lib.hid hcs; have hz1 := hcs.1; have hz2 := hcs.2.1; clear hb1 hcs))
        | (go_at_call 18; ((with_reducible refine (cl1 _ HB1.out).mono ?_); clear cl1; rintro e v2 ⟨rfl, hb2⟩; have HCS2 := Lib.hid (HCS.out.keep hb2); have HB2 := Lib.hid (pb2 HB1.out hb2); clear hb2))
        | (go_at_call 19; ((with_reducible refine (cp1 _ HB2.out).mono ?_); clear cp1; rintro e v3 ⟨rfl, hb3⟩; have HCS3 := Lib.hid (HCS2.out.keep hb3); have HB3 := Lib.hid (pb2 HB2.out hb3); clear hb3))
        | fail)
      refine bodyPost_ret (v := .tuple #[.slice none 0 0, .bool false, .int .i64 1]) (by simp [results, Try.results13, go_sem]) rfl ⟨false, 1, none, 0, [], rfl, HB3.out, fun h => absurd h HO.out, fun _ => ⟨rfl, rfl⟩, fun h => absurd h HO.out, fun h => (by cases h), fun _ => ⟨rfl, rfl, rfl⟩⟩
    have HO : Hid (okF m N) := Lib.hid ⟨hs, s, hmt, h16⟩
    have HMT := Lib.hid hmt
    have h17 : ¬ (16 : Int) < (s.l.length : Int) := by omega
    have HW := Lib.hid (And.intro hwm hwN)
    have cn := fun W hb => new_any a cap m W (HM.out.below hb) (by omega)
    rw [putsL_self m hs] at cn
    clear cl cp hs hmt hwm hwN
    go_enter Try.func13, Try.ntmps13
    go_upto_region 4 with (first
      | (go_at_call 17; ((with_reducible refine cc.mono ?_); clear cc; rintro e v1 ⟨ao, cp2, rfl, hcs, hb1⟩; have HB1 := Lib.hid hb1; have HCS := Lib.hid hcs; have hz1 := hcs.1; have hz2 := hcs.2.1; clear hb1 hcs))
      | (go_at_call 18; ((with_reducible refine (cl1 _ HB1.out).mono ?_); clear cl1; rintro e v2 ⟨rfl, hb2⟩; have HCS2 := Lib.hid (HCS.out.keep hb2); have HB2 := Lib.hid (pb2 HB1.out hb2); clear hb2))
      | (go_at_call 19; ((with_reducible refine (cp1 _ HB2.out).mono ?_); clear cp1; rintro e v3 ⟨rfl, hb3⟩; have HCS3 := Lib.hid (HCS2.out.keep hb3); have HB3 := Lib.hid (pb2 HB2.out hb3); clear hb3))
      | fail)
    have HQ4 := Lib.hid (Bq.new (v3.alloc (.map #[] 0)) #[.slice ao s.l.length cp2, .slice none 0 0, .map (some v3.heap.size)] 55)
    rw [show (v3.alloc (.map #[] 0)).heap.size = v3.heap.size + 1 by simp] at HQ4
    have HM4 := Lib.hid ((World.ownsMap_made v3 Try.prog 78 (unitElem (H := Unit))).alloc (.cells #[.slice ao s.l.length cp2, .slice none 0 0, .map (some v3.heap.size)] 55))
    have HB34 := Lib.hid (pb1 (pal (w := v3) (.map #[] 0)) (.cells #[.slice ao s.l.length cp2, .slice none 0 0, .map (some v3.heap.size)] 55))
    have hz4 : ((v3.alloc (.map #[] 0)).alloc (.cells #[.slice ao s.l.length cp2, .slice none 0 0, .map (some v3.heap.size)] 55)).heap.size = v3.heap.size + 1 + 1 := by simp
    have HZ4 := Lib.hid hz4
    clear hz4
    go_upto_region 5 with (fail)
    generalize (v3.alloc (.map #[] 0)).alloc (.cells #[.slice ao s.l.length cp2, .slice none 0 0, .map (some v3.heap.size)] 55) = W4 at *
    have cn := fun W hb => new_any a cap m W (HM.out.below hb) (by omega)
    rw [putsL_self m HS.out] at cn
    have HB4 := Lib.hid (pb2 HB3.out HB34.out)
    have ci := fun mp W => on_any v3 (v3.heap.size + 1) v3.heap.size ao cp2 s.l m HCS3.out h16 (Nat.le_succ _) (Nat.le_refl _) (Nat.succ_ne_self _) (ops_wid HMT.out HW.out.2) (pend_ok HMT.out) (lefS (fun _ => false) s.l.length) mp (.slice none 0 0) [] (fun _ => false) m 0 (.map []) [] W rfl
    have HIN : Hid (OnIn s.l m [] (fun _ => false) m 0 (.map []) []) := Lib.hid ⟨fun kl h => (by cases h), fun t ht => (by cases ht), fun t ht => (by cases ht), ⟨fun i _ => rfl, Agr.start HS.out⟩, HW.out.1, (by have : lefS (fun _ => false) s.l.length ≤ s.l.length := Nat.sub_le _ _; omega), (by have : lefS (fun _ => false) s.l.length ≤ s.l.length := Nat.sub_le _ _; show 0 + _ ≤ 100; omega), (by have h1 : lefS (fun _ => false) s.l.length ≤ s.l.length := Nat.sub_le _ _; have h2 := memF_le (n := lefS (fun _ => false) s.l.length) (by omega); omega)⟩
    go_wp2_with (first
      | (go_at_call 21; ((with_reducible refine (cn _ HB4.out).mono ?_); clear cn; rintro e v5 ⟨bm, rfl, hbm, hmp, hb5⟩; have HN5 := Lib.hid (And.intro hbm (And.intro hmp hb5)); clear hbm hmp hb5))
      | (refine wpList_buildT rfl 60 _ rfl (bitsA (fun _ => false)) ?_ ?_; (go_simp; exact built_places))
      | (go_at_call 20; (have h5 := HN5.out; have hz := HZ4.out; have hst : OnSt v3 (v3.heap.size + 1) v3.heap.size bm ao cp2 s.l (.slice none 0 0) [] m 0 (.map []) v5 := ⟨pb2 HB34.out h5.2.2, HQ4.out.keep h5.2.2, Nums.nil _ _, fun k hk => (by simp [Value.ownBlock] at hk), h5.2.1.sub (.inl rfl) (fun k _ hk => hk.elim .inr (fun e => .inl (by rcases e with e | e | e; omega; omega; simp [Value.ownBlock] at e))), ownsMap_only (S := fun _ => False) HM4.out (Only.ofBelow h5.2.2) (fun x => x)⟩; have ci2 := ci bm v5 (by have := h5.1; omega) (by have := h5.1; omega) (by have := h5.1; omega) hst HIN.out; clear ci hst hz h5; unfold OnIs at ci2; (with_reducible refine ci2.mono ?_); clear ci2; rintro e w9 ⟨Bz, v3', rfl, ho9, hq9, hv9, hres⟩; have c1 := hq9.at_ 1 _ rfl; have cl := hq9.lt; cases Bz))
      | fail)
    · have hbz : Below w.heap.size w w9 := (pb2 HB4.out HN5.out.2.2).trans (ho9.below (fun i hi => by
        have h1 := HB3.out.size
        rcases hi with e | e | e
        · omega
        · omega
        · simp [Value.ownBlock] at e) (pb2 HB4.out HN5.out.2.2).size)
      rcases hres with ⟨h, _⟩ | ⟨_, hf, _⟩
      · cases h
      exact bodyPost_ret (v := .tuple #[.slice none 0 0, .bool false, .int .i64 0]) (by simp [results, Try.results13, go_sem]) rfl ⟨false, 0, none, 0, [], rfl, hbz, fun _ => rfl, fun h => absurd HO.out h, fun _ => ⟨fun h => (by cases h), fun ⟨l, hl⟩ => absurd ⟨l, (rgt_can (minv N _ s HMT.out) m l).1 ((ordR_is HS.out HMT.out).1 hl)⟩ hf⟩, fun h => (by cases h), fun _ => ⟨rfl, rfl, rfl⟩⟩
    · have hbz : Below w.heap.size w w9 := (pb2 HB4.out HN5.out.2.2).trans (ho9.below (fun i hi => by
        have h1 := HB3.out.size
        rcases hi with e | e | e
        · omega
        · omega
        · simp [Value.ownBlock] at e) (pb2 HB4.out HN5.out.2.2).size)
      rcases hres with ⟨_, l, hc, hr⟩ | ⟨h, _⟩
      rotate_left
      · cases h
      rw [List.nil_append] at hr
      obtain ⟨ao3, cap3, rfl, _, _⟩ := hr.form
      have hor : ordR m N l := (ordR_is HS.out HMT.out).2 ((rgt_can (minv N _ s HMT.out) m l).2 hc)
      exact bodyPost_ret (v := .tuple #[.slice ao3 l.length cap3, .bool true, .int .i64 0]) (by simp [results, Try.results13, go_sem]) rfl ⟨true, 0, ao3, cap3, l, rfl, hbz, fun _ => rfl, fun h => absurd HO.out h, fun _ => ⟨fun _ => ⟨l, hor⟩, fun _ => rfl⟩, fun _ => ⟨hor, ⟨hr.row, fun k e hk => by
        have h1 := (pb2 HB4.out HN5.out.2.2).size
        have h2 := hv9 k (by omega) e
        simp [Value.ownBlock] at h2⟩⟩, fun h => (by cases h)⟩
set_option maxRecDepth 100000 in
set_option maxHeartbeats 12800000 in
theorem any_any (a a1 : Option Addr) (cap cap1 : Nat) (m : List Pr) (N : List EvD) (w : World) (hm : Prs w a cap m) (hN : Es w a1 cap1 N) (sm : m.length ≤ 200) (sN : N.length ≤ 300) (sp : ∀ e ∈ N, e.a.ps.length ≤ 1100000) (hwm : widM m) (hwN : ∀ e ∈ N, i64w e.o.v) (B : Bool) (hB : B = true ↔ okF m N ∧ ∃ l, ordR m N l) :
    Calls Try.prog 9 #[.slice a m.length cap, .slice a1 N.length cap1] w fun e w' => e = .returned (.bool B) ∧ Below w.heap.size w w' := by
  have cf := find_any a a1 cap cap1 m N w hm hN sm sN sp hwm hwN
  have HBB := Lib.hid hB
  clear hB hm hN
  go_enter Try.func9, Try.ntmps9
  go_wp2_with (first
    | (go_at_call 13; ((with_reducible refine cf.mono ?_); clear cf; rintro e v1 ⟨B1, E, ao, c, l, rfl, hb1, h1, h2, h3, h4, h5⟩; have HB1 := Lib.hid hb1; have HR := Lib.hid (And.intro h2 h3); clear hb1 h1 h2 h3 h4 h5))
    | fail)
  go_ret
  refine ⟨?_, HB1.out⟩
  have e : B = B1 := by
    obtain ⟨h2, h3⟩ := HR.out
    by_cases ho : okF m N
    · have h4 := h3 ho
      cases B <;> cases B1
      · rfl
      · exact absurd (HBB.out.2 ⟨ho, h4.1 rfl⟩) (by simp)
      · exact absurd (h4.2 (HBB.out.1 rfl).2) (by simp)
      · rfl
    · rw [(h2 ho).2]
      cases B
      · rfl
      · exact absurd (HBB.out.1 rfl).1 ho
  rw [e]; rfl
end Go.Proofs.Ytadfnbmogobopaa

namespace Go.Proofs.Ytadfnbmogobopaa
open Go.RowKit Go.Maps Go.Deep Go.ChangeShapes Go.WideShapes
set_option linter.all false
set_option maxRecDepth 20000

section
variable {H : Type} {enc : TypeId × Value → H} {w : World} {fuel : Nat} {x : DataW H × List MemPlace}
theorem fields_eventw {cs : List Value} (h : DataW.trod enc Try.prog w 0 (fun _ => true) true fuel 36 cs = some x) (hb : ∀ n ∈ x.1.weights Try.prog 36, n ≤ reachBytes) :
    ∃ (e : EvD) (pa : Option Addr) (pc : Nat), cs = evC e pa pc ∧ Prs w pa pc e.a.ps ∧ e.a.ps.length ≤ 8796093022208 ∧ e.o.wf := by
  obtain ⟨ys, n, _, hx, hlen, hyl, hf⟩ := DataW.trod_struct Try.underlying36 h
  have hone : Try.prog.cellsOf 3 = 1 := by kernel_rfl
  have hone2 : Try.prog.cellsOf 4 = 1 := by kernel_rfl
  have hone3 : Try.prog.cellsOf 25 = 4 := by kernel_rfl
  have hone4 : Try.prog.cellsOf 34 = 6 := by kernel_rfl
  have h12 : Try.prog.cellsOf 36 = 12 := by kernel_rfl
  rw [h12] at hlen
  have some_of : ∀ i, i < 4 → ∃ y, ys[i]? = some y := fun i hi => ⟨_, List.getElem?_eq_getElem (by rw [hyl]; exact hi)⟩
  match cs, hlen with
  | [v0, v1, v2, v3, v4, v5, v6, v7, v8, v9, v10, v11], _ =>
    obtain ⟨y0, e0⟩ := some_of 0 (by decide)
    obtain ⟨y1, e1⟩ := some_of 1 (by decide)
    obtain ⟨y2, e2⟩ := some_of 2 (by decide)
    obtain ⟨y3, e3⟩ := some_of 3 (by decide)
    have g0 : DataW.trod enc Try.prog w 0 (fun _ => true) true n 3 (([v0, v1, v2, v3, v4, v5, v6, v7, v8, v9, v10, v11].drop 0).take (Try.prog.cellsOf 3)) = ys[0]? := hf 0 _ rfl
    have g1 : DataW.trod enc Try.prog w 0 (fun _ => true) true n 4 (([v0, v1, v2, v3, v4, v5, v6, v7, v8, v9, v10, v11].drop 1).take (Try.prog.cellsOf 4)) = ys[1]? := hf 1 _ rfl
    have g2 : DataW.trod enc Try.prog w 0 (fun _ => true) true n 25 (([v0, v1, v2, v3, v4, v5, v6, v7, v8, v9, v10, v11].drop 2).take (Try.prog.cellsOf 25)) = ys[2]? := hf 2 _ rfl
    have g3 : DataW.trod enc Try.prog w 0 (fun _ => true) true n 34 (([v0, v1, v2, v3, v4, v5, v6, v7, v8, v9, v10, v11].drop 6).take (Try.prog.cellsOf 34)) = ys[3]? := hf 3 _ rfl
    rw [hone, e0] at g0; rw [hone2, e1] at g1; rw [hone3, e2] at g2; rw [hone4, e3] at g3
    obtain ⟨n0, a0, _⟩ := DataW.trod_int Try.underlying3 g0
    obtain ⟨b1, a1, _⟩ := DataW.trod_bool Try.underlying4 g1
    obtain ⟨d, a2, hdw⟩ := fields_op (cs := [v2, v3, v4, v5]) (by simpa using g2)
    have g3' : DataW.trod enc Try.prog w 0 (fun _ => true) true n 34 [v6, v7, v8, v9, v10, v11] = some y3 := by simpa using g3
    obtain ⟨D, a, cap, a3, ha⟩ := fields_ans g3'
    simp at a0 a1 a2 a3
    obtain ⟨rfl, rfl, rfl, rfl⟩ := a2
    obtain ⟨rfl, rfl, rfl, rfl, rfl, rfl⟩ := a3
    subst a0; subst a1
    have hw := wt_ans (x := y3) g3' (fun k hk => hb k (by
      rw [hx]
      simp only [DataW.weights, Try.underlying36]
      exact DataW.weights_mem_each (j := 3) (t := 34) (d := y3.1) rfl (by rw [List.getElem?_map, e3]; rfl) k hk))
    exact ⟨⟨n0, b1, d, D⟩, a, cap, rfl, ha, hw, hdw⟩
theorem open_eventsw {v : Value} (h : DataW.trod enc Try.prog w 0 (fun _ => true) true fuel 23 [v] = some x) (hb : ∀ n ∈ x.1.weights Try.prog 23, n ≤ reachBytes) : ∃ a cap N, v = .slice a N.length cap ∧ (Es w a cap N ∧ (a = none → cap = 0)) ∧ (MidE N ∧ ∀ e ∈ N, e.o.wf) := by
  have h2 : Try.prog.cellsOf 36 = 12 := by kernel_rfl
  rcases open_slice Try.underlying23 h with ⟨hcs, _⟩ | ⟨y, len, cap, m, n, D, Pl, hcs, hbb, hl, hm, hmm, hx, hi⟩
  · simp at hcs
    exact ⟨none, 0, [], hcs, ⟨Es.none w, fun _ => rfl⟩, fun q hq => (by cases hq), fun q hq => (by cases hq)⟩
  · simp at hcs hmm
    subst hmm
    subst hx
    rw [h2] at hi
    have each : ∀ i, i < len → ∃ d : EvD, (d.a.ps.length ≤ 8796093022208 ∧ d.o.wf) ∧ ∃ b o pa pc, y = ⟨b, o, none⟩ ∧ EA w b (o + i * 12) pa pc d := by
      intro i him
      obtain ⟨cs', hc, ht⟩ := hi i (by omega)
      obtain ⟨_, hcl, hat⟩ := World.cells?_some hc
      obtain ⟨d, pa, pc, rfl, hp, hd⟩ := fields_eventw ht (fun k hk => hb k (by
        simp only [DataW.weights, Try.underlying23]
        exact List.mem_cons_of_mem _ (List.mem_append_left _ (mem_weightsAllE (List.mem_map.2 ⟨i, List.mem_range.2 him, rfl⟩) hk))))
      obtain ⟨cs0, hc0, _⟩ := hi 0 (by omega)
      obtain ⟨_, hcl0, hat0⟩ := World.cells?_some hc0
      obtain ⟨b, o, spot⟩ := y
      have hs : spot = none := by
        have h0 := hat0 0 (by decide)
        rw [List.getElem?_eq_getElem (by omega)] at h0
        simpa [Addr.add] using World.cell?_spot h0
      subst hs
      refine ⟨d, hd, b, o, pa, pc, rfl, fun j v hj => ?_, hp⟩
      have hj12 : j < 12 := by have := (List.getElem?_eq_some_iff.1 hj).1; simpa [evC] using this
      have := hat j hj12
      rw [add_lit, add_lit] at this
      exact this.trans hj
    obtain ⟨f, hf⟩ := choose_lt each
    refine ⟨some y, m, (List.range len).map f, by simp [hcs], ⟨⟨by simpa using hl, hm, fun n c hc => ?_⟩, fun e => (by cases e)⟩, fun q hq => ?_, fun q hq => ?_⟩
    rotate_left
    · obtain ⟨j, hj, rfl⟩ := List.mem_map.1 hq
      exact (hf j (List.mem_range.1 hj)).1.1
    · obtain ⟨j, hj, rfl⟩ := List.mem_map.1 hq
      exact (hf j (List.mem_range.1 hj)).1.2
    have hn : n < len := by
      rcases Nat.lt_or_ge n len with h | h
      · exact h
      · rw [List.getElem?_eq_none (by simpa using h)] at hc; cases hc
    rw [List.getElem?_map, List.getElem?_range hn] at hc
    simp at hc
    subst hc
    obtain ⟨_, b, o, pa, pc, rfl, hcl⟩ := hf n hn
    exact ⟨b, o, pa, pc, rfl, hcl⟩
end
section
variable {w : World} {ops : Array Oper} {o : Oper} {a : Act} {K : Act → World → Prop} {Q : Exit → Act → World → Prop} {E : Prop}
theorem wpList_tw {rest : List Oper} (hg : o.guard = none) (s x : Operand) (hop : o.op = Op.call { callee := Callee.builtin Builtin.append, args := #[s, x], argTypes := #[23, 23] })
    (W0 : World) (v : Value) (M ms : List RE) (hs : a.eval s = v) (h : TW W0 w v M) (hp : ∀ m ∈ ms, Prs W0 m.a m.c m.e.a.ps)
    (xv : Value) (hx : a.eval x = xv) (hsrc : Source w xv ms.length (cellsE ms)) (hl : M.length + ms.length ≤ 100000) (n : Nat) (hn : M.length + ms.length = n)
    (H : ∀ ao cap w', cap ≤ maxLen → n ≤ cap → TW W0 w' (.slice ao n cap) (M ++ ms) → Only (fun k => v.ownBlock = some k) w w' → (∀ k, (Value.slice ao n cap).ownBlock = some k → v.ownBlock = some k ∨ w.heap.size ≤ k) → wpList Try.prog ops Q rest (a.put o.dst (.slice ao n cap)) w') :
    wpList Try.prog ops Q (o :: rest) a w := by
  subst hn
  obtain ⟨i, hi, hz, hs1, hs2⟩ := info_parts infoEvent
  refine wpList_own_append hg s x 23 hop 36 i _ 12 112 Try.underlying23 hi hz hs1 hs2 rfl (by decide) v M.length (cellsE M) hs h.row.row xv ms.length (cellsE ms) hx hsrc (cellsE_len ms) (fun u hu => cellsE_one ms u hu) (by unfold maxLen; omega) (by omega) ?_
  intro v' w' hown hgr hk
  have hpp : ∀ m ∈ ms, Prs w m.a m.c m.e.a.ps ∧ (m.e.a.ps ≠ [] → ∀ b o sp, m.a = some ⟨b, o, sp⟩ → ¬ (fun _ => False) b ∧ v.ownBlock ≠ some b) := fun m hm => by
    have h1 := hp m hm
    refine ⟨h1.below h.be, fun hne b o sp e => ⟨fun x => x, fun hh => ?_⟩⟩
    have := h.own b hh
    obtain ⟨q, l, hl'⟩ := List.exists_cons_of_ne_nil hne
    rw [hl'] at h1
    obtain ⟨b', o', e', c0, _⟩ := h1.2.2.1 0 q rfl
    rw [e] at e'; cases e'
    have := World.block_lt_of_cell? W0 _ c0
    dsimp only at this
    omega
  obtain ⟨ao, cap, rfl, h1, h2, h3, h4⟩ := evs_post h.row (fun k hk => hk.elim) hpp hown hgr hk
  refine H ao cap w' h1 h2 ⟨h3, fun k hk' => ?_, h.be.trans (h4.below (fun i hi => h.own i hi) h.be.size)⟩ h4 hk
  rcases hk k hk' with x | x
  · exact h.own k x
  · exact Nat.le_trans h.be.size x
end
theorem op_w {d : OpD} (h : d.wf) : i64w d.v := h.2.2.2
theorem rng_w {m : List Pr} (h : Rng m) : widM m := fun z hz => (h z hz).2
theorem cntB_le (N : List EvD) : ∀ n, cntB N n ≤ n
  | 0 => Nat.le_refl _
  | n + 1 => by have := cntB_le N n; simp only [cntB]; split <;> omega
/-- Calls that can be searched by the page's own way. -/
def shrt (N : List EvD) : Prop := LgtE N ∧ cntB N N.length ≤ 9
theorem shrt_len {N : List EvD} {s : Mt} (h : shrt N) (hm : mtch N = some s) : s.l.length ≤ 9 := by
  have := (minv N _ s hm).nb
  have h2 := h.2
  omega
set_option maxRecDepth 100000 in
set_option maxHeartbeats 12800000 in
theorem short_any (a : Option Addr) (cap : Nat) (N : List EvD) (w : World) (hN : Es w a cap N) (hm : MidE N) (B : Bool) (hB : B = true ↔ shrt N) :
    Calls Try.prog 8 #[.slice a N.length cap] w fun e w' => e = .returned (.bool B) ∧ Below w.heap.size w w' := by
  have HN := Lib.hid hN
  have HBB := Lib.hid hB
  have HM := Lib.hid hm
  have hc1 := hN.1
  have hc2 := hN.2.1
  unfold maxLen at hc2
  have cl0 := fun W (hb : Below w.heap.size w W) => light_anyE a cap N W (hN.keep hb) hm
  clear hN hm hB
  go_enter Try.func8, Try.ntmps8
  go_wp2_with (fail)
  go_loopw [8, 3] (fun i x wr => ∃ (n : Nat), n ≤ N.length ∧ i = .int .i64 n ∧ x = .int .i64 ((cntB N n : Nat) : Int) ∧ Below w.heap.size w wr) (fun i _ _ => N.length - (intOf i).toNat)
  case atStart => exact ⟨0, Nat.zero_le _, rfl, rfl, Below.refl _ _⟩
  case round =>
    obtain ⟨n, hn, rfl, rfl, hb⟩ := hrel
    have HBR := Lib.hid hb
    by_cases hlt : n < N.length
    · obtain ⟨x, hx⟩ : ∃ x, N[n]? = some x := ⟨_, List.getElem?_eq_getElem hlt⟩
      obtain ⟨b, o, pa, pc, rfl, hx1⟩ := (HN.out.keep hb).2.2 n x hx
      have hn0 : (0 : Int) ≤ (n : Int) := by omega
      have hnl : (n : Int) < (N.length : Int) := by omega
      have hcn : cntB N n ≤ n := cntB_le N n
      have hgd : N.getD n zEv = x := by rw [List.getD_eq_getElem?_getD, hx]; rfl
      have HCN : Hid (cntB N (n + 1) = cntB N n + (if x.r = true then 0 else 1)) := Lib.hid (by rw [← hgd]; rfl)
      obtain ⟨e0, e1, e2, e3, e4, e5, e6, e7, e8, e9, e10, e11⟩ := hx1.ex
      obtain ⟨t, r, ⟨oc, ok, oh, ov⟩, ⟨ae, ao, ak, av, an, ap⟩⟩ := x
      dsimp only at e0 e1 e2 e3 e4 e5 e6 e7 e8 e9 e10 e11 HCN
      clear hx hb hx1 hgd
      cases r
      · go_wp2_with (fail)
        go_roundw
        case rel => exact ⟨n + 1, by omega, by go_num, by rw [HCN.out]; go_num, pb2 HBR.out (pal _)⟩
        case measure => simp [intOf]; omega
      · go_wp2_with (fail)
        go_roundw
        case rel => exact ⟨n + 1, by omega, by go_num, by rw [HCN.out]; rfl, pb2 HBR.out (pal _)⟩
        case measure => simp [intOf]; omega
    · obtain rfl : n = N.length := by omega
      by_cases hL : LgtE N
      · have cl := cl0 wr hb 0 (fun _ => rfl) (fun h => absurd hL h)
        clear cl0 hb
        by_cases h9 : cntB N N.length ≤ 9
        · have hBt : Hid (B = true) := Lib.hid (HBB.out.2 ⟨hL, h9⟩)
          have h9i : ((cntB N N.length : Nat) : Int) ≤ 9 := by omega
          clear hL
          go_wp2_with (first
            | (go_at_call 15; ((with_reducible refine cl.mono ?_); clear cl; rintro e v1 ⟨rfl, hb1⟩; have HB1 := Lib.hid (pb2 HBR.out hb1); clear hb1))
            | fail)
          go_ret
          exact ⟨by rw [hBt.out]; simp [h9], HB1.out⟩
        · have hBf : Hid (B = false) := Lib.hid (by
            cases B
            · rfl
            · exact absurd (HBB.out.1 rfl).2 h9)
          have h9i : ¬ ((cntB N N.length : Nat) : Int) ≤ 9 := by omega
          clear hL
          go_wp2_with (first
            | (go_at_call 15; ((with_reducible refine cl.mono ?_); clear cl; rintro e v1 ⟨rfl, hb1⟩; have HB1 := Lib.hid (pb2 HBR.out hb1); clear hb1))
            | fail)
          go_ret
          exact ⟨by rw [hBf.out]; simp [h9]; omega, HB1.out⟩
      · have cl := cl0 wr hb 1 (fun h => absurd h hL) (fun _ => rfl)
        have hBf : Hid (B = false) := Lib.hid (by
          cases B
          · rfl
          · exact absurd (HBB.out.1 rfl).1 hL)
        clear cl0 hb hL
        go_wp2_with (first
          | (go_at_call 15; ((with_reducible refine cl.mono ?_); clear cl; rintro e v1 ⟨rfl, hb1⟩; have HB1 := Lib.hid (pb2 HBR.out hb1); clear hb1))
          | fail)
        go_ret
        exact ⟨by rw [hBf.out]; rfl, HB1.out⟩
def hg : List EvD := [⟨1, false, ⟨4, 1, 0, 0⟩, zAd⟩, ⟨1, true, ⟨4, 1, 0, 0⟩, ⟨0, true, 1, 5, 0, []⟩⟩]
def hl1 : List ClD := [⟨1, 0, 1, ⟨4, 1, 0, 0⟩, ⟨0, true, 1, 5, 0, []⟩⟩]
theorem hg_is : mtch hg = some ⟨[0, 0, 0, 0, 0, 0], hl1⟩ := by rfl
theorem hg_no (l : List Int) : ¬ ordR [] hg l := fun ⟨_, s, h1, h2⟩ => by
  rw [hg_is] at h1; cases h1
  have hin := h2.nm.inr
  have hnd := h2.nm.nd
  have hal := h2.nm.all 0 (by decide) (by decide)
  match l, hal with
  | x :: l, _ =>
    have hx := hin x (by simp)
    have hx0 : x = 0 := by unfold inR at hx; have : hl1.length = 1 := rfl; simp only [this] at hx; omega
    subst hx0
    have := h2.tl 0 (by simp)
    unfold tel at this
    rw [dn_at (by simp)] at this
    have k : ¬ (0 ≤ (cAt hl1 0).g → doA [] (cAt hl1 0).o.c (cAt hl1 0).o.k (cAt hl1 0).o.h = (cAt hl1 0).a) := by decide
    exact k this
theorem hg_es {W : World} {g : Nat} (h : Bq W g #[.int .i64 0, .bool false, .int .i64 1, .int .i64 1, .int .i64 0, .int .i64 5, .int .i64 0, .bool false, .int .i64 0, .int .i64 0, .int .i64 0, .slice none 0 0, .int .i64 1, .bool false, .int .i64 4, .int .i64 1, .int .i64 0, .int .i64 0, .int .i64 0, .bool false, .int .i64 0, .int .i64 0, .int .i64 0, .slice none 0 0, .int .i64 1, .bool true, .int .i64 4, .int .i64 1, .int .i64 0, .int .i64 0, .int .i64 0, .bool true, .int .i64 1, .int .i64 5, .int .i64 0, .slice none 0 0].toList) : Es W (some ⟨g, 12, none⟩) 2 hg := by
  refine ⟨by decide, by decide, fun i e he => ⟨g, 12, none, 0, rfl, ?_⟩⟩
  match i with
  | 0 =>
    simp [hg] at he; subst he
    exact ⟨fun j v hj => h.at_ (12 + 0 * 12 + j) v (by
      have hj12 : j < 12 := by have := (List.getElem?_eq_some_iff.1 hj).1; simpa [evC] using this
      match j, hj12 with
      | 0, _ | 1, _ | 2, _ | 3, _ | 4, _ | 5, _ | 6, _ | 7, _ | 8, _ | 9, _ | 10, _ | 11, _ => exact hj), Prs.nil _⟩
  | 1 =>
    simp [hg] at he; subst he
    exact ⟨fun j v hj => h.at_ (12 + 1 * 12 + j) v (by
      have hj12 : j < 12 := by have := (List.getElem?_eq_some_iff.1 hj).1; simpa [evC] using this
      match j, hj12 with
      | 0, _ | 1, _ | 2, _ | 3, _ | 4, _ | 5, _ | 6, _ | 7, _ | 8, _ | 9, _ | 10, _ | 11, _ => exact hj), Prs.nil _⟩
  | n + 2 => simp [hg] at he
theorem hh_ok : okF [] hh := ⟨Srt.nil, _, hh_is, by decide⟩
theorem hh_only (l : List Int) (h : ordR [] hh l) : l = [0, 1] := by
  obtain ⟨_, s, h1, h2⟩ := id h
  rw [hh_is] at h1; cases h1
  have hin := h2.nm.inr
  have hnd := h2.nm.nd
  have hal := h2.nm.all 1 (by decide) (by decide)
  have two : ∀ x ∈ l, x = 0 ∨ x = 1 := fun x hx => by
    have h := hin x hx
    unfold inR at h; have : hl2.length = 2 := rfl; simp only [this] at h; omega
  match l, hal with
  | [x], hal2 =>
    rcases two x (by simp) with e | e
    · subst e; simp at hal2
    · subst e; exact absurd h hh_no2
  | [x, y], _ =>
    rcases two x (by simp) with e | e <;> rcases two y (by simp) with e2 | e2 <;> subst e <;> subst e2
    · simp at hnd
    · rfl
    · exact absurd h hh_no1
    · simp at hnd
  | x :: y :: z :: l, _ =>
    exfalso
    have h3 := List.nodup_cons.1 hnd
    have h4 := List.nodup_cons.1 h3.2
    rcases two x (by simp) with e | e <;> rcases two y (by simp) with e2 | e2 <;> rcases two z (by simp) with e3 | e3 <;> subst e <;> subst e2 <;> subst e3 <;> simp at h3 h4
theorem hh_w : ∀ e ∈ hh, i64w e.o.v := by
  intro e he
  unfold i64w
  simp [hh] at he
  rcases he with rfl | rfl | rfl <;> decide
theorem hg_w : ∀ e ∈ hg, i64w e.o.v := by
  intro e he
  unfold i64w
  simp [hg] at he
  rcases he with rfl | rfl <;> decide
set_option maxRecDepth 100000 in
set_option maxHeartbeats 12800000 in
theorem lawake_any (w : World) : Calls Try.prog 10 #[] w fun e w' => e = .returned (.bool true) ∧ Below w.heap.size w w' := by
  have hba : Below w.heap.size w ((w.alloc (.cells #[.int .i64 1, .int .i64 1, .int .i64 0, .int .i64 5] 25)).alloc (.cells #[.int .i64 4, .int .i64 1, .int .i64 0, .int .i64 0] 25)) := pb1 (pal _) _
  have cf := fun a1 cap1 W hN => find_any none a1 0 cap1 [] hh W (Prs.nil _) hN (by simp) (by decide) (by intro e he; simp [hh] at he; rcases he with rfl | rfl | rfl <;> decide) (fun z hz => (by cases hz)) hh_w
  have c1 := fun a1 cap1 W hN => any_any none a1 0 cap1 [] hh W (Prs.nil _) hN (by simp) (by decide) (by intro e he; simp [hh] at he; rcases he with rfl | rfl | rfl <;> decide) (fun z hz => (by cases hz)) hh_w true (by simp only [true_iff]; exact ⟨hh_ok, _, hh_yes⟩)
  have c2 := fun a1 cap1 W hN => any_any none a1 0 cap1 [] hg W (Prs.nil _) hN (by simp) (by decide) (by intro e he; simp [hg] at he; rcases he with rfl | rfl <;> decide) (fun z hz => (by cases hz)) hg_w false (by simp only [Bool.false_eq_true, false_iff]; exact fun x => (x.2.elim fun l hl => hg_no l hl))
  simp only [List.length_nil, show hh.length = 3 from rfl, show hg.length = 2 from rfl] at cf c1 c2
  go_enter Try.func10, Try.ntmps10
  go_upto_region 3 with (fail)
  have hsz : ((w.alloc (.cells #[.int .i64 1, .int .i64 1, .int .i64 0, .int .i64 5] 25)).alloc (.cells #[.int .i64 4, .int .i64 1, .int .i64 0, .int .i64 0] 25)).heap.size = w.heap.size + 1 + 1 := by simp
  have HES := Lib.hid (hh_es ((w.alloc (.cells #[.int .i64 1, .int .i64 1, .int .i64 0, .int .i64 5] 25)).alloc (.cells #[.int .i64 4, .int .i64 1, .int .i64 0, .int .i64 0] 25)))
  have HQ := Lib.hid (Bq.new ((w.alloc (.cells #[.int .i64 1, .int .i64 1, .int .i64 0, .int .i64 5] 25)).alloc (.cells #[.int .i64 4, .int .i64 1, .int .i64 0, .int .i64 0] 25)) #[.int .i64 0, .bool false, .int .i64 1, .int .i64 1, .int .i64 0, .int .i64 5, .int .i64 0, .bool false, .int .i64 0, .int .i64 0, .int .i64 0, .slice none 0 0, .int .i64 1, .bool false, .int .i64 4, .int .i64 1, .int .i64 0, .int .i64 0, .int .i64 0, .bool false, .int .i64 0, .int .i64 0, .int .i64 0, .slice none 0 0, .int .i64 1, .bool true, .int .i64 4, .int .i64 1, .int .i64 0, .int .i64 0, .int .i64 0, .bool true, .int .i64 1, .int .i64 5, .int .i64 0, .slice none 0 0] 36)
  rw [hsz] at HES HQ
  have HB0 := Lib.hid (pb1 hba (.cells #[.int .i64 0, .bool false, .int .i64 1, .int .i64 1, .int .i64 0, .int .i64 5, .int .i64 0, .bool false, .int .i64 0, .int .i64 0, .int .i64 0, .slice none 0 0, .int .i64 1, .bool false, .int .i64 4, .int .i64 1, .int .i64 0, .int .i64 0, .int .i64 0, .bool false, .int .i64 0, .int .i64 0, .int .i64 0, .slice none 0 0, .int .i64 1, .bool true, .int .i64 4, .int .i64 1, .int .i64 0, .int .i64 0, .int .i64 0, .bool true, .int .i64 1, .int .i64 5, .int .i64 0, .slice none 0 0] 36))
  clear hba hsz
  generalize ((w.alloc (.cells #[.int .i64 1, .int .i64 1, .int .i64 0, .int .i64 5] 25)).alloc (.cells #[.int .i64 4, .int .i64 1, .int .i64 0, .int .i64 0] 25)).alloc (.cells #[.int .i64 0, .bool false, .int .i64 1, .int .i64 1, .int .i64 0, .int .i64 5, .int .i64 0, .bool false, .int .i64 0, .int .i64 0, .int .i64 0, .slice none 0 0, .int .i64 1, .bool false, .int .i64 4, .int .i64 1, .int .i64 0, .int .i64 0, .int .i64 0, .bool false, .int .i64 0, .int .i64 0, .int .i64 0, .slice none 0 0, .int .i64 1, .bool true, .int .i64 4, .int .i64 1, .int .i64 0, .int .i64 0, .int .i64 0, .bool true, .int .i64 1, .int .i64 5, .int .i64 0, .slice none 0 0] 36) = W3 at *
  generalize hgg : w.heap.size + 1 + 1 = g3 at *
  clear hgg
  go_wp2_with (first
    | (go_at_call 13; ((with_reducible refine (cf _ _ _ HES.out).mono ?_); clear cf; rintro e v1 ⟨B, E, ao, c, l, rfl, hb1, h1, h2, h3, h4, h5⟩; obtain rfl : E = 0 := h1 hh_ok; obtain rfl : B = true := (h3 hh_ok).2 ⟨_, hh_yes⟩; obtain ⟨ho, hn⟩ := h4 rfl; obtain rfl := hh_only l ho; obtain ⟨gl, rfl, hgl, hcl⟩ := hn.at (i := 0) rfl; have HLN := Lib.hid hcl; have hll := World.block_lt_of_cell? v1 _ hcl; have HE1 := Lib.hid (HES.out.keep hb1); have HQ1 := Lib.hid (HQ.out.keep hb1); have HB1 := Lib.hid (pb2 HB0.out hb1); clear h1 h2 h3 h4 h5 ho hn hgl hb1 hcl; obtain ⟨M, hM, hMl, hsrc, hMp⟩ := src_evs (hg_es HQ1.out) (fun e => (by cases e)); have HSR := Lib.hid hsrc; have HMP := Lib.hid hMp; have HMM := Lib.hid hM; have hM2 : M.length = 2 := hMl; clear hsrc hMp hM hMl))
    | (refine wpList_tw rfl _ _ rfl v1 (.slice (some ⟨v1.heap.size, 0, none⟩) 0 0) [] M rfl (TW.a0 (Below.refl _ _)) HMP.out _ rfl (src_keep HSR.out (pal _)) (by rw [hM2]; decide) 2 (by rw [hM2]; rfl) ?_; intro ao2 lc2 We hm2 hc2 hT2 hO2 hK2; have HT2 := Lib.hid hT2; have HE2 := Lib.hid (HE1.out.keep hT2.be); have HB2 := Lib.hid (pb2 HB1.out hT2.be); have hcl2 := pkc hT2.be HLN.out; clear hT2 hO2 hK2 HLN)
    | (go_at_call 9; first
      | ((with_reducible refine (c1 _ _ _ HE2.out).mono ?_); clear c1; rintro e v3 ⟨rfl, hb3⟩; have HT3 := Lib.hid (HT2.out.keep hb3); have HB3 := Lib.hid (pb2 HB2.out hb3); clear hb3)
      | (have hes : Es _ ao2 lc2 hg := (by have := HT3.out.es.2; rw [List.nil_append, HMM.out] at this; exact this); (with_reducible refine (c2 _ _ _ hes).mono ?_); clear c2; rintro e v4 ⟨rfl, hb4⟩; have HB4 := Lib.hid (pb2 HB3.out hb4); clear hb4 hes))
    | fail)
  go_ret
  exact ⟨by rfl, HB4.out⟩
end Go.Proofs.Ytadfnbmogobopaa
