/- plan.node exactly; osierref1.Plain. No condition: lemmas. -/
import Derived.Test.YtlpjbgojijkdjaaPnE
import Derived.Test.YtlpjbgojijkdjaaTrQ
namespace Go.Proofs.Ytlpjbgojijkdjaa
open Go.RowKit
set_option linter.all false

theorem node_any {w0 : World} {pb gs : Nat} {T : Int} {a : Option Addr} {cap : Nat} {N : List Nd} {sc : Nat} (hN : Ns w0 a cap N) (hsm : Small N) : ∀ f, PnOk w0 pb gs T a cap N sc f := by
  intro f
  induction f with
  | zero => intro W vo M sn bad t lo hi hf; exact absurd hf (Nat.not_lt_zero _)
  | succ f IH =>
    intro W vo M sn bad t lo hi hf hML hP hlo hhi
    have hl := hsm.1
    cases bad
    case true => exact (node_bad hP hl).mono (fun e w' h => pn_of_bad hP h (fun h => (by cases h)))
    by_cases h1 : 0 ≤ t ∧ t < (N.length : Int)
    case neg =>
      rcases Int.lt_or_le t 0 with h0 | h0
      · exact (node_neg hP hl h0).mono (fun e w' h => pn_of_bad hP h (fun _ => part_out h1))
      · exact (node_over hP hl (by omega)).mono (fun e w' h => pn_of_bad hP h (fun _ => part_out h1))
    obtain ⟨i, rfl⟩ : ∃ i : Nat, t = i := ⟨t.toNat, by omega⟩
    have hil : i < N.length := by omega
    obtain ⟨n, hn⟩ : ∃ n, N[i]? = some n := ⟨_, List.getElem?_eq_getElem hil⟩
    obtain ⟨v, hv⟩ : ∃ v, sn[i]? = some v := ⟨_, List.getElem?_eq_getElem (by rw [hP.sl]; exact hil)⟩
    cases v
    case true => exact (node_seen hP hl hil hv rfl).mono (fun e w' h => pn_of_bad hP h (fun _ => part_seen rfl hv))
    cases hr : n.r with
    | false => exact node_lf hN hsm hn hr hv rfl hP hlo hhi hML
    | true =>
      by_cases hk : okR n (bdo lo) (bdo hi)
      · exact node_rt_yes hN hsm hn hr hv rfl hP hlo hhi hk hf hML IH
      · exact node_rt_no hN hsm hn hr hv rfl hP hlo hhi hk

theorem cnt_rep (n : Nat) : cnt (List.replicate n false) = n := by simp [cnt]
attribute [local go_sem] mkB_run
set_option maxRecDepth 100000 in
set_option maxHeartbeats 12800000 in
theorem rplain_no (t : Int) (a : Option Addr) (cap : Nat) (N : List Nd) (w : World) (hN : Ns w a cap N) (hsm : Small N) (h : ∀ s, ¬ Tr N s t) :
    Calls Try.prog 12 #[trv t a cap N] w fun e w' => e = .returned (.tuple #[.agg #[.int .i64 0, .slice none 0 0], .bool false]) ∧ Below w.heap.size w w' := by
  have HT := Lib.hid h
  clear h
  have hl1 := hsm.1
  have hc1 := hN.1
  have hc2 := hN.2.1
  unfold maxLen at hc2
  have b2 : Below w.heap.size w ((w.alloc (.cells #[.int .i64 t, .slice a N.length cap] 24)).alloc (.cells #[.int .i64 0, .slice none 0 0] 24)) := bel1 (al1 _) _
  have P0 := Lib.hid (show Pn w (((((w.alloc (.cells #[.int .i64 t, .slice a N.length cap] 24)).alloc (.cells #[.int .i64 0, .slice none 0 0] 24)).alloc (.cells (mkB N.length) 4)).alloc (.cells #[.int .i64 t, .slice a N.length cap, .slice none 0 0, .slice (some ⟨w.heap.size + 1 + 1, 0, none⟩) N.length N.length, .bool false] 63)).drew) (w.heap.size + 1 + 1 + 1) (w.heap.size + 1 + 1) t a cap N N.length (.slice none 0 0) [] (List.replicate N.length false) false from by
    have hb := (Bk.new (((w.alloc (.cells #[.int .i64 t, .slice a N.length cap] 24)).alloc (.cells #[.int .i64 0, .slice none 0 0] 24)).alloc (.cells (mkB N.length) 4)) #[.int .i64 t, .slice a N.length cap, .slice none 0 0, .slice (some ⟨w.heap.size + 1 + 1, 0, none⟩) N.length N.length, .bool false] 63).drew
    have hs := (mkB_bs ((w.alloc (.cells #[.int .i64 t, .slice a N.length cap] 24)).alloc (.cells #[.int .i64 0, .slice none 0 0] 24)) N.length).keep (al1 (.cells #[.int .i64 t, .slice a N.length cap, .slice none 0 0, .slice (some ⟨w.heap.size + 1 + 1, 0, none⟩) N.length N.length, .bool false] 63))
    simp only [World.size_alloc] at hb hs
    refine ⟨hb, ⟨hs.lt, hs.at_, hs.fr⟩, List.length_replicate .., NRow.nil _ _, (bel1 (bel1 b2 _) _).drew, by omega, by omega, by omega⟩)
  have G1 := Lib.hid (show Bk (((((w.alloc (.cells #[.int .i64 t, .slice a N.length cap] 24)).alloc (.cells #[.int .i64 0, .slice none 0 0] 24)).alloc (.cells (mkB N.length) 4)).alloc (.cells #[.int .i64 t, .slice a N.length cap, .slice none 0 0, .slice (some ⟨w.heap.size + 1 + 1, 0, none⟩) N.length N.length, .bool false] 63)).drew) w.heap.size [.int .i64 t, .slice a N.length cap] from (((((Bk.new w #[.int .i64 t, .slice a N.length cap] 24).past (.cells #[.int .i64 0, .slice none 0 0] 24)).past (.cells (mkB N.length) 4)).past (.cells #[.int .i64 t, .slice a N.length cap, .slice none 0 0, .slice (some ⟨w.heap.size + 1 + 1, 0, none⟩) N.length N.length, .bool false] 63))).drew)
  have G2 := Lib.hid (show Bk (((((w.alloc (.cells #[.int .i64 t, .slice a N.length cap] 24)).alloc (.cells #[.int .i64 0, .slice none 0 0] 24)).alloc (.cells (mkB N.length) 4)).alloc (.cells #[.int .i64 t, .slice a N.length cap, .slice none 0 0, .slice (some ⟨w.heap.size + 1 + 1, 0, none⟩) N.length N.length, .bool false] 63)).drew) (w.heap.size + 1) [.int .i64 0, .slice none 0 0] from by
    have h := (((Bk.new (w.alloc (.cells #[.int .i64 t, .slice a N.length cap] 24)) #[.int .i64 0, .slice none 0 0] 24).past (.cells (mkB N.length) 4)).past (.cells #[.int .i64 t, .slice a N.length cap, .slice none 0 0, .slice (some ⟨w.heap.size + 1 + 1, 0, none⟩) N.length N.length, .bool false] 63)).drew
    simp only [World.size_alloc] at h; exact h)
  have cn := node_any (pb := w.heap.size + 1 + 1 + 1) (gs := w.heap.size + 1 + 1) (T := t) (sc := N.length) hN hsm (cnt (List.replicate N.length false) + 1) (((((w.alloc (.cells #[.int .i64 t, .slice a N.length cap] 24)).alloc (.cells #[.int .i64 0, .slice none 0 0] 24)).alloc (.cells (mkB N.length) 4)).alloc (.cells #[.int .i64 t, .slice a N.length cap, .slice none 0 0, .slice (some ⟨w.heap.size + 1 + 1, 0, none⟩) N.length N.length, .bool false] 63)).drew) (.slice none 0 0) [] (List.replicate N.length false) false t none none (Nat.lt_succ_self _) (by simp [cnt]) P0.out (BdOk.none _ _ _) (BdOk.none _ _ _)
  simp only [bdv] at cn
  unfold trv
  have HN := Lib.hid hN
  clear hN b2
  go_enter Try.func12, Try.ntmps12
  go_wp2_with (fail)
  go_region
  go_upto_region 5 with (go_at_call 36; ((with_reducible refine cn.mono ?_); clear cn; rintro e w5 ⟨r, v5, M5, sn5, bad5, rfl, hP5, hO5, hK5, hPo5⟩; have P5 := Lib.hid hP5; have K1 := Lib.hid (G1.out.only hO5 (by intro hh; rcases hh with hh | hh | hh; omega; omega; simp [Value.ownBlock] at hh)); have K2 := Lib.hid (G2.out.only hO5 (by intro hh; rcases hh with hh | hh | hh; omega; omega; simp [Value.ownBlock] at hh)); have PO := Lib.hid (hPo5.2.2.2 rfl); clear hP5 hO5 hK5 hPo5))
  obtain ⟨a5, c5, rfl, hc5, hm5⟩ := P5.out.r.form
  unfold maxLen at hm5
  have p4 := P5.out.b.at_ 4 _ rfl
  have p2 := P5.out.b.at_ 2 _ rfl
  have k0 := K1.out.at_ 0 _ rfl
  have k1 := K1.out.at_ 1 _ rfl
  have r0 := K2.out.at_ 0 _ rfl
  have r1 := K2.out.at_ 1 _ rfl
  have f0 := K2.out.fr 0
  have f1 := K2.out.fr 1
  clear G1 G2 P0
  cases bad5
  · obtain ⟨s, hp, -, -, hM⟩ := PO.out.1 rfl
    have hne : ((M5.length : Int) != (N.length : Int)) = true := by
      have h1 := congrArg List.length hM
      simp [lay_len] at h1
      have h2 : s.pre.length ≠ N.length := fun e => HT.out s ((part_tr (by omega) hp).2 e)
      simp; omega
    have HM5 := Lib.hid (show M5.length ≤ 1000 from by
      have h1 := congrArg List.length hM
      simp [lay_len] at h1
      have h3 := sub_len (m := List.range N.length) hp.2.1 (fun i hi => List.mem_range.2 (hp.1.lt i hi))
      simp at h3
      omega)
    have hM5 := HM5.out
    clear hp hM PO
    go_quiet (fail)
    go_wp2_with (fail)
    refine bodyPost_ret (v := .tuple #[.agg #[.int .i64 0, .slice none 0 0], .bool false]) (by simp [results, Try.results12, go_sem, r0, r1]) rfl ⟨rfl, ?_⟩
    repeat' (first | refine Below.setCell ?_ (by dsimp only; omega) _ | refine Below.drew ?_ | exact below_drewN P5.out.z _ | exact P5.out.z)
  · clear PO
    go_quiet (fail)
    go_wp2_with (fail)
    refine bodyPost_ret (v := .tuple #[.agg #[.int .i64 0, .slice none 0 0], .bool false]) (by simp [results, Try.results12, go_sem, r0, r1]) rfl ⟨rfl, ?_⟩
    repeat' (first | refine Below.setCell ?_ (by dsimp only; omega) _ | refine Below.drew ?_ | exact below_drewN P5.out.z _ | exact P5.out.z)
set_option maxRecDepth 100000 in
set_option maxHeartbeats 12800000 in
theorem rplain_yes (t : Int) (a : Option Addr) (cap : Nat) (N : List Nd) (w : World) (hN : Ns w a cap N) (hsm : Small N) (s : Sh) (h : Tr N s t) :
    Calls Try.prog 12 #[trv t a cap N] w (PlIs w (lay N s 0)) := by
  have HT := Lib.hid h
  clear h
  have hl1 := hsm.1
  have hc1 := hN.1
  have hc2 := hN.2.1
  unfold maxLen at hc2
  have b2 : Below w.heap.size w ((w.alloc (.cells #[.int .i64 t, .slice a N.length cap] 24)).alloc (.cells #[.int .i64 0, .slice none 0 0] 24)) := bel1 (al1 _) _
  have P0 := Lib.hid (show Pn ((w.alloc (.cells #[.int .i64 t, .slice a N.length cap] 24)).alloc (.cells #[.int .i64 0, .slice none 0 0] 24)) (((((w.alloc (.cells #[.int .i64 t, .slice a N.length cap] 24)).alloc (.cells #[.int .i64 0, .slice none 0 0] 24)).alloc (.cells (mkB N.length) 4)).alloc (.cells #[.int .i64 t, .slice a N.length cap, .slice none 0 0, .slice (some ⟨w.heap.size + 1 + 1, 0, none⟩) N.length N.length, .bool false] 63)).drew) (w.heap.size + 1 + 1 + 1) (w.heap.size + 1 + 1) t a cap N N.length (.slice none 0 0) [] (List.replicate N.length false) false from by
    have hb := (Bk.new (((w.alloc (.cells #[.int .i64 t, .slice a N.length cap] 24)).alloc (.cells #[.int .i64 0, .slice none 0 0] 24)).alloc (.cells (mkB N.length) 4)) #[.int .i64 t, .slice a N.length cap, .slice none 0 0, .slice (some ⟨w.heap.size + 1 + 1, 0, none⟩) N.length N.length, .bool false] 63).drew
    have hs := (mkB_bs ((w.alloc (.cells #[.int .i64 t, .slice a N.length cap] 24)).alloc (.cells #[.int .i64 0, .slice none 0 0] 24)) N.length).keep (al1 (.cells #[.int .i64 t, .slice a N.length cap, .slice none 0 0, .slice (some ⟨w.heap.size + 1 + 1, 0, none⟩) N.length N.length, .bool false] 63))
    simp only [World.size_alloc] at hb hs
    refine ⟨hb, ⟨hs.lt, hs.at_, hs.fr⟩, List.length_replicate .., NRow.nil _ _, (bel1 (al1 _) _).drew, by simp only [World.size_alloc]; omega, by simp only [World.size_alloc]; omega, by omega⟩)
  have G1 := Lib.hid (show Bk (((((w.alloc (.cells #[.int .i64 t, .slice a N.length cap] 24)).alloc (.cells #[.int .i64 0, .slice none 0 0] 24)).alloc (.cells (mkB N.length) 4)).alloc (.cells #[.int .i64 t, .slice a N.length cap, .slice none 0 0, .slice (some ⟨w.heap.size + 1 + 1, 0, none⟩) N.length N.length, .bool false] 63)).drew) w.heap.size [.int .i64 t, .slice a N.length cap] from (((((Bk.new w #[.int .i64 t, .slice a N.length cap] 24).past (.cells #[.int .i64 0, .slice none 0 0] 24)).past (.cells (mkB N.length) 4)).past (.cells #[.int .i64 t, .slice a N.length cap, .slice none 0 0, .slice (some ⟨w.heap.size + 1 + 1, 0, none⟩) N.length N.length, .bool false] 63))).drew)
  have G2 := Lib.hid (show Bk (((((w.alloc (.cells #[.int .i64 t, .slice a N.length cap] 24)).alloc (.cells #[.int .i64 0, .slice none 0 0] 24)).alloc (.cells (mkB N.length) 4)).alloc (.cells #[.int .i64 t, .slice a N.length cap, .slice none 0 0, .slice (some ⟨w.heap.size + 1 + 1, 0, none⟩) N.length N.length, .bool false] 63)).drew) (w.heap.size + 1) [.int .i64 0, .slice none 0 0] from by
    have h := (((Bk.new (w.alloc (.cells #[.int .i64 t, .slice a N.length cap] 24)) #[.int .i64 0, .slice none 0 0] 24).past (.cells (mkB N.length) 4)).past (.cells #[.int .i64 t, .slice a N.length cap, .slice none 0 0, .slice (some ⟨w.heap.size + 1 + 1, 0, none⟩) N.length N.length, .bool false] 63)).drew
    simp only [World.size_alloc] at h; exact h)
  have cn := node_any (pb := w.heap.size + 1 + 1 + 1) (gs := w.heap.size + 1 + 1) (T := t) (sc := N.length) (hN.keep b2) hsm (cnt (List.replicate N.length false) + 1) (((((w.alloc (.cells #[.int .i64 t, .slice a N.length cap] 24)).alloc (.cells #[.int .i64 0, .slice none 0 0] 24)).alloc (.cells (mkB N.length) 4)).alloc (.cells #[.int .i64 t, .slice a N.length cap, .slice none 0 0, .slice (some ⟨w.heap.size + 1 + 1, 0, none⟩) N.length N.length, .bool false] 63)).drew) (.slice none 0 0) [] (List.replicate N.length false) false t none none (Nat.lt_succ_self _) (by simp [cnt]) P0.out (BdOk.none _ _ _) (BdOk.none _ _ _)
  simp only [bdv] at cn
  unfold trv
  have HN := Lib.hid hN
  have B2 := Lib.hid b2
  clear hN b2
  go_enter Try.func12, Try.ntmps12
  go_wp2_with (fail)
  go_region
  go_upto_region 5 with (go_at_call 36; ((with_reducible refine cn.mono ?_); clear cn; rintro e w5 ⟨r, v5, M5, sn5, bad5, rfl, hP5, hO5, hK5, hPo5⟩; have P5 := Lib.hid hP5; have K1 := Lib.hid (G1.out.only hO5 (by intro hh; rcases hh with hh | hh | hh; omega; omega; simp [Value.ownBlock] at hh)); have K2 := Lib.hid (G2.out.only hO5 (by intro hh; rcases hh with hh | hh | hh; omega; omega; simp [Value.ownBlock] at hh)); have PO := Lib.hid (hPo5.2.2.2 rfl); clear hP5 hO5 hK5 hPo5))
  obtain ⟨a5, c5, rfl, hc5, hm5⟩ := P5.out.r.form
  unfold maxLen at hm5
  have p4 := P5.out.b.at_ 4 _ rfl
  have p2 := P5.out.b.at_ 2 _ rfl
  have k0 := K1.out.at_ 0 _ rfl
  have k1 := K1.out.at_ 1 _ rfl
  have r0 := K2.out.at_ 0 _ rfl
  have r1 := K2.out.at_ 1 _ rfl
  have f0 := K2.out.fr 0
  have f1 := K2.out.fr 1
  clear G1 G2 P0
  cases bad5
  · obtain ⟨s', hp, -, -, hM⟩ := PO.out.1 rfl
    obtain rfl := HT.out.hg.uniq hp.1
    have hlen : M5.length = N.length := by
      have h1 := congrArg List.length hM
      simp [lay_len] at h1
      rw [h1, HT.out.all]
    have hne : ((M5.length : Int) != (N.length : Int)) = false := by simp [hlen]
    have HM := Lib.hid (And.intro hM hlen)
    have hM5 : M5.length ≤ 1000 := by omega
    clear hp hM PO hlen
    go_quiet (fail)
    go_wp2_with (fail)
    have hO : Only (fun k => k = w.heap.size + 1) w5 ((w5.setCell ⟨w.heap.size + 1, 0, none⟩ (.int .i64 0)).setCell ⟨w.heap.size + 1, 1, none⟩ (.slice a5 M5.length c5)) :=
      ((Only.refl _ w5).setCell (S := fun k => k = w.heap.size + 1) (p := ⟨w.heap.size + 1, 0, none⟩) (.inl rfl) _).setCell (S := fun k => k = w.heap.size + 1) (p := ⟨w.heap.size + 1, 1, none⟩) (.inl rfl) _
    have NS := Lib.hid (show Ns ((w5.setCell ⟨w.heap.size + 1, 0, none⟩ (.int .i64 0)).setCell ⟨w.heap.size + 1, 1, none⟩ (.slice a5 M5.length c5)) a5 c5 (lay N s 0) from by
      have h := (P5.out.r.only hO (fun k hk => .inl (by subst hk; simp only [World.size_alloc]; omega))).ns.2
      rw [HM.out.1] at h
      exact h)
    refine bodyPost_ret (v := .tuple #[.agg #[.int .i64 0, .slice a5 M5.length c5], .bool true]) (by simp [results, Try.results12, go_sem, r0, r1]) rfl ⟨a5, c5, ?_, ?_, ?_⟩
    · rw [lay_len, HT.out.all, HM.out.2]
    · exact NS.out.keep (below_drewN (Below.refl _ _) _)
    · repeat' (first | refine Below.setCell ?_ (by dsimp only; omega) _ | refine Below.drew ?_ | exact bel2 B2.out (below_drewN P5.out.z _) | exact bel2 B2.out P5.out.z)
  · exact absurd (tr_part HT.out) (PO.out.2 rfl s)
#print axioms rplain_no
#print axioms rplain_yes
end Go.Proofs.Ytlpjbgojijkdjaa
