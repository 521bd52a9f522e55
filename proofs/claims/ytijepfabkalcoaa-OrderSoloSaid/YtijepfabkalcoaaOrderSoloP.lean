/- Of calls one after the other that are over and of which none was refused there is one right order at most, that in which they began; it is right just if each was told what one map tells; and its pairs are that map's. No condition. -/
import Derived.Test.YtijepfabkalcoaaRows
import Derived.Test.YtijepfabkalcoaaOrH
import Derived.LoopTactic
import Derived.WalkKit
import Derived.ProofKit
import Derived.OpenShut
import Derived.ChangeOld
import Derived.Below
namespace Go.Proofs.Ytijepfabkalcoaa.orderSolo
open Go.ChangeShapes Go.WideShapes Go.ChangeAt Go.RowKit
set_option linter.all false

theorem own : ownKnob Try.prog.godebug = none := by kernel_rfl
theorem laidOut : laidOutB Try.prog = true := by kernel_rfl



set_option maxRecDepth 100000 in
set_option maxHeartbeats 25600000 in
theorem walk (a0 : Option Addr) (cap0 : Nat) (z0 : List Pr) (a1 : Option Addr) (cap1 : Nat) (z1 : List EvD) (a2 : Option Addr) (cap2 : Nat) (z2 : List Int) (w : World) (w0 : Prs w a0 cap0 z0) (w1 : Es w a1 cap1 z1) (s1 : MidE z1) (w2 : RI w a2 cap2 z2) :
    Calls Try.prog 6 #[.slice a0 z0.length cap0, .slice a1 z1.length cap1, .slice a2 z2.length cap2] w fun e w' => e = .returned (.bool true) ∧ Below w.heap.size w w' := by
  have hlg := light_anyE a1 cap1 z1 w w1 s1
  have ca := fun W (hb : Below w.heap.size w W) => owake_any W
  have hz1 := w0.1
  have hz2 := w0.2.1
  have hz3 := w1.1
  have hz4 := w1.2.1
  have hz5 := w2.1
  have hz6 := w2.2.1
  unfold maxLen at hz2 hz4 hz6
  by_cases hL : LgtE z1
  rotate_left
  · have cl := hlg 1 (fun h => absurd h hL) (fun _ => rfl)
    clear hlg hL
    go_enter Try.func6, Try.ntmps6
    go_wp2_with (first
      | (go_at_call 20; ((with_reducible refine cl.mono ?_); clear cl; rintro e w3 ⟨rfl, hb1⟩; have HB1 := Lib.hid hb1; clear hb1))
      | (go_at_call 26; ((with_reducible refine (ca _ HB1.out).mono ?_); clear ca; rintro e wa ⟨rfl, hba⟩; have HBa := Lib.hid (pb2 HB1.out hba); clear hba))
      | fail)
    go_ret
    exact ⟨by simp, HBa.out⟩
  have cl := hlg 0 (fun _ => rfl) (fun h => absurd hL h)
  have hN3 : z1.length ≤ 300 := Nat.le_trans hL.1 (by decide)
  have hps : ∀ e ∈ z1, e.a.ps.length ≤ 1100000 := fun e he => Nat.le_trans (hL.ps e he) (by decide)
  clear hlg hL
  by_cases hA1 : z0.length ≤ 100
  rotate_left
  · have h3 : (100 : Int) < (z0.length : Int) := by omega
    clear hA1
    go_enter Try.func6, Try.ntmps6
    go_wp2_with (first
      | (go_at_call 20; ((with_reducible refine cl.mono ?_); clear cl; rintro e w3 ⟨rfl, hb1⟩; have HB1 := Lib.hid hb1; clear hb1))
      | (go_at_call 26; ((with_reducible refine (ca _ HB1.out).mono ?_); clear ca; rintro e wa ⟨rfl, hba⟩; have HBa := Lib.hid (pb2 HB1.out hba); clear hba))
      | fail)
    go_ret
    exact ⟨by simp, HBa.out⟩
  have h3 : ¬ (100 : Int) < (z0.length : Int) := by omega
  by_cases hA2 : z2.length ≤ 200
  rotate_left
  · have h4 : (200 : Int) < (z2.length : Int) := by omega
    clear hA2
    go_enter Try.func6, Try.ntmps6
    go_wp2_with (first
      | (go_at_call 20; ((with_reducible refine cl.mono ?_); clear cl; rintro e w3 ⟨rfl, hb1⟩; have HB1 := Lib.hid hb1; clear hb1))
      | (go_at_call 26; ((with_reducible refine (ca _ HB1.out).mono ?_); clear ca; rintro e wa ⟨rfl, hba⟩; have HBa := Lib.hid (pb2 HB1.out hba); clear hba))
      | fail)
    go_ret
    exact ⟨by simp, HBa.out⟩
  have h4 : ¬ (200 : Int) < (z2.length : Int) := by omega
  by_cases hs : Srt z0
  rotate_left
  · have cM := fun W (hb : Below w.heap.size w W) => rmay_any a0 cap0 z0 W (w0.below hb) false (decide_eq_false hs)
    go_enter Try.func6, Try.ntmps6
    go_wp2_with (first
      | (go_at_call 20; ((with_reducible refine cl.mono ?_); clear cl; rintro e w3 ⟨rfl, hb1⟩; have HB1 := Lib.hid hb1; clear hb1))
      | (go_at_call 30; ((with_reducible refine (cM _ HB1.out).mono ?_); clear cM; rintro e v2 ⟨rfl, hb2⟩; have HB2 := Lib.hid (pb2 HB1.out hb2); clear hb2))
      | (go_at_call 26; ((with_reducible refine (ca _ HB2.out).mono ?_); clear ca; rintro e wa ⟨rfl, hba⟩; have HBa := Lib.hid (pb2 HB2.out hba); clear hba))
      | fail)
    go_ret
    exact ⟨by simp, HBa.out⟩
  have cM := fun W (hb : Below w.heap.size w W) => rmay_any a0 cap0 z0 W (w0.below hb) true (decide_eq_true hs)
  have cS0 := fun W (hb : Below w.heap.size w W) B hB => solo_any a1 cap1 z1 W (w1.keep hb) hN3 B hB
  have cO0 := fun W (hb : Below w.heap.size w W) B hB => over_any a1 cap1 z1 W (w1.keep hb) hN3 B hB
  have cH0 := fun W (hb : Below w.heap.size w W) => rmaypast_any a1 cap1 z1 W (w1.keep hb) hN3
  cases hm : mtch z1 with
  | none =>
    have cS := fun W hb => cS0 W hb false (by unfold soloB; rw [hm])
    clear cS0 cO0 cH0 hm
    go_enter Try.func6, Try.ntmps6
    go_wp2_with (first
      | (go_at_call 20; ((with_reducible refine cl.mono ?_); clear cl; rintro e w3 ⟨rfl, hb1⟩; have HB1 := Lib.hid hb1; clear hb1))
      | (go_at_call 30; ((with_reducible refine (cM _ HB1.out).mono ?_); clear cM; rintro e v2 ⟨rfl, hb2⟩; have HB2 := Lib.hid (pb2 HB1.out hb2); clear hb2))
      | (go_at_call 31; ((with_reducible refine (cS _ HB2.out).mono ?_); clear cS; rintro e v3 ⟨rfl, hb3⟩; have HB3 := Lib.hid (pb2 HB2.out hb3); clear hb3))
      | (go_at_call 26; ((with_reducible refine (ca _ HB3.out).mono ?_); clear ca; rintro e wa ⟨rfl, hba⟩; have HBa := Lib.hid (pb2 HB3.out hba); clear hba))
      | fail)
    go_ret
    exact ⟨by simp, HBa.out⟩
  | some s =>
    by_cases hso : slo s.l
    rotate_left
    · have cS := fun W hb => cS0 W hb false (by unfold soloB; rw [hm]; exact decide_eq_false hso)
      clear cS0 cO0 cH0 hm
      go_enter Try.func6, Try.ntmps6
      go_wp2_with (first
        | (go_at_call 20; ((with_reducible refine cl.mono ?_); clear cl; rintro e w3 ⟨rfl, hb1⟩; have HB1 := Lib.hid hb1; clear hb1))
        | (go_at_call 30; ((with_reducible refine (cM _ HB1.out).mono ?_); clear cM; rintro e v2 ⟨rfl, hb2⟩; have HB2 := Lib.hid (pb2 HB1.out hb2); clear hb2))
        | (go_at_call 31; ((with_reducible refine (cS _ HB2.out).mono ?_); clear cS; rintro e v3 ⟨rfl, hb3⟩; have HB3 := Lib.hid (pb2 HB2.out hb3); clear hb3))
        | (go_at_call 26; ((with_reducible refine (ca _ HB3.out).mono ?_); clear ca; rintro e wa ⟨rfl, hba⟩; have HBa := Lib.hid (pb2 HB3.out hba); clear hba))
        | fail)
      go_ret
      exact ⟨by simp, HBa.out⟩
    have cS := fun W hb => cS0 W hb true (by unfold soloB; rw [hm]; exact decide_eq_true hso)
    by_cases hov : ovr s.l
    rotate_left
    · have cO := fun W hb => cO0 W hb false (by unfold overB; rw [hm]; exact decide_eq_false hov)
      clear cS0 cO0 cH0 hm
      go_enter Try.func6, Try.ntmps6
      go_wp2_with (first
        | (go_at_call 20; ((with_reducible refine cl.mono ?_); clear cl; rintro e w3 ⟨rfl, hb1⟩; have HB1 := Lib.hid hb1; clear hb1))
        | (go_at_call 30; ((with_reducible refine (cM _ HB1.out).mono ?_); clear cM; rintro e v2 ⟨rfl, hb2⟩; have HB2 := Lib.hid (pb2 HB1.out hb2); clear hb2))
        | (go_at_call 31; ((with_reducible refine (cS _ HB2.out).mono ?_); clear cS; rintro e v3 ⟨rfl, hb3⟩; have HB3 := Lib.hid (pb2 HB2.out hb3); clear hb3))
        | (go_at_call 32; ((with_reducible refine (cO _ HB3.out).mono ?_); clear cO; rintro e v4 ⟨rfl, hb4⟩; have HB4 := Lib.hid (pb2 HB3.out hb4); clear hb4))
        | (go_at_call 26; ((with_reducible refine (ca _ HB4.out).mono ?_); clear ca; rintro e wa ⟨rfl, hba⟩; have HBa := Lib.hid (pb2 HB4.out hba); clear hba))
        | fail)
      go_ret
      exact ⟨by simp, HBa.out⟩
    have cO := fun W hb => cO0 W hb true (by unfold overB; rw [hm]; exact decide_eq_true hov)
    have cH := cH0
    rw [hm] at cH
    simp only [Option.isSome_some] at cH
    have cC := fun W (hb : Below w.heap.size w W) => rcalls_any a1 cap1 z1 W (w1.keep hb) hN3 s.l (by unfold callsL; rw [hm])
    have I := minv z1 _ s hm
    have hLN : s.l.length ≤ 300 := by have h1 := I.nb; have h2 := (cnt_le z1 z1.length).1; omega
    have hup := fun he => solo_up hs hm hso hov he
    have HOV := Lib.hid hov
    obtain ⟨L, hLL⟩ : ∃ L, s.l = L := ⟨_, rfl⟩
    rw [hLL] at cC hLN hup HOV
    have HUP := Lib.hid hup
    have HPS := Lib.hid hps
    have HW0 := Lib.hid w0
    have HW1 := Lib.hid w1
    have HW2 := Lib.hid w2
    clear cS0 cO0 cH0 hm hso hov I hup hLL hps w0 w1 w2
    go_enter Try.func6, Try.ntmps6
    go_wp2_with (first
      | (go_at_call 20; ((with_reducible refine cl.mono ?_); clear cl; rintro e w3 ⟨rfl, hb1⟩; have HB1 := Lib.hid hb1; clear hb1))
      | (go_at_call 30; ((with_reducible refine (cM _ HB1.out).mono ?_); clear cM; rintro e v2 ⟨rfl, hb2⟩; have HB2 := Lib.hid (pb2 HB1.out hb2); clear hb2))
      | (go_at_call 31; ((with_reducible refine (cS _ HB2.out).mono ?_); clear cS; rintro e v3 ⟨rfl, hb3⟩; have HB3 := Lib.hid (pb2 HB2.out hb3); clear hb3))
      | (go_at_call 32; ((with_reducible refine (cO _ HB3.out).mono ?_); clear cO; rintro e v4 ⟨rfl, hb4⟩; have HB4 := Lib.hid (pb2 HB3.out hb4); clear hb4))
      | (go_at_call 22; ((with_reducible refine (cH _ HB4.out).mono ?_); clear cH; rintro e v5 ⟨rfl, hb5⟩; have HB5 := Lib.hid (pb2 HB4.out hb5); clear hb5))
      | (at_builtin; refine wpList_app rfl (.tmp 52) (.tmp 53) rfl (fun j => j < v5.heap.size) _ [] z0 rfl (PRow.lit _) (fun k hk => by simp; omega) _ rfl (src_any (HW0.out.below (pb1 HB5.out _))) (by simp; omega) z0.length (by simp) z0 rfl ?_; intro ao9 cp9 w9 hm9 hc9 hR9 hO9; have HF9 := Lib.hid (And.intro hR9 hO9); clear hR9 hO9; unfold maxLen at hm9; have HB9 := Lib.hid (show Below w.heap.size w w9 from only_below (w0 := w) (pb1 HB5.out _) HF9.out.2 (fun k hk => (by have := HB5.out.size; omega))))
      | (go_at_call 33; ((with_reducible refine (cC _ HB9.out).mono ?_); clear cC; rintro e w3 ⟨ao3, cp3, rfl, hC3, hb3⟩; have HC3 := Lib.hid hC3; have HP3 := Lib.hid ((HF9.out.1.prs rfl).below hb3); have HB3 := Lib.hid (pb2 HB9.out hb3); clear hb3 hC3))
      | fail)
    have hc3 := HC3.out.1
    have hc4 := HC3.out.2.1
    unfold maxLen at hc4
    clear HB1 HB2 HB4 HF9 HB9
    go_loopw [58, 7, 8, 9] (fun i x k y wr => ∃ (n : Nat) (ao : Option Addr) (cp : Nat) (K : Bool) (au : Option Addr) (cu : Nat), n ≤ L.length ∧ i = .int .i64 n ∧ x = .slice ao (stt z0 L n).length cp ∧ Prs wr ao cp (stt z0 L n) ∧ k = .bool K ∧ (K = true ↔ tls z0 L n) ∧ y = .slice au n cu ∧ Nums wr (fun j => j < w3.heap.size) (.slice au n cu) (upTo n) ∧ (∀ i, i < n → (L.getD i zCl).a.err = 0) ∧ Below w3.heap.size w3 wr) (fun i _ _ _ _ => L.length - (intOf i).toNat)
    case atStart => exact ⟨0, ao9, cp9, true, none, 0, Nat.zero_le _, rfl, rfl, HP3.out, rfl, by simp [tls], rfl, Nums.nil _ _, fun i hi => by omega, Below.refl _ _⟩
    case round =>
      clear HP3
      obtain ⟨n, ao', cp', K, au, cu, hnl, rfl, rfl, hpm, rfl, hK, rfl, hnu, her, hbe⟩ := hrel
      have HPM := Lib.hid hpm
      have HK := Lib.hid hK
      have HNU := Lib.hid hnu
      have HER := Lib.hid her
      have HBE := Lib.hid hbe
      have hz7 := hpm.1
      have hz8 := hpm.2.1
      unfold maxLen at hz8
      clear hpm hK hnu her hbe
      by_cases hlt : n < L.length
      · obtain ⟨c, hcm⟩ : ∃ c, L[n]? = some c := ⟨_, List.getElem?_eq_getElem hlt⟩
        obtain ⟨bd, oo, pa, pc, rfl, hca0⟩ := HC3.out.2.2 n _ hcm
        have hca := hca0.keep HBE.out
        obtain ⟨c0, c1, c2, c3, c4, c5, c6, c7, c8, c9, c10, c11, c12⟩ := hca.ex
        have hgd : L.getD n zCl = c := by rw [List.getD_eq_getElem?_getD, hcm]; rfl
        have hn0 : (0 : Int) ≤ (n : Int) := Int.natCast_nonneg n
        have hnI : (n : Int) < (L.length : Int) := Int.ofNat_lt.2 hlt
        have hgg := HOV.out c (List.mem_of_getElem? hcm)
        have HPC := Lib.hid hca.ps
        have HNX : Hid (stt z0 L (n + 1) = doP (stt z0 L n) c.o.c c.o.k c.o.v) := Lib.hid (by rw [← hgd]; rfl)
        have HTE : Hid (tel z0 L n ↔ doA (stt z0 L n) c.o.c c.o.k c.o.h = c.a) := Lib.hid (by unfold tel; rw [hgd]; exact ⟨fun h => h hgg, fun h _ => h⟩)
        have HLT := Lib.hid hlt
        have HGD := Lib.hid hgd
        have hba := pal (w := wr) (.cells (clC c pa pc).toArray 59)
        have HBA := Lib.hid hba
        have HQ1 := Lib.hid (Bq.new wr (clC c pa pc).toArray 59)
        have hlen : (stt z0 L n).length ≤ 1200000 := by have := stt_le z0 L n; omega
        have cd := fun (W : World) (hb : Below wr.heap.size wr W) => rdo_any ao' cp' (stt z0 L n) c.o.c c.o.k c.o.h c.o.v W (HPM.out.below hb) hlen
        clear hcm hca0 hca hgd hgg hba hlen hlt
        by_cases hae : c.a.err = 0
        rotate_left
        · have haeb : (c.a.err != 0) = true := by simpa using hae
          clear hae cd HTE HNX
          obtain ⟨t, f, g, ⟨oc, ok, oh, ov⟩, ⟨ae, ao, ak, av, an, ap⟩⟩ := c
          unfold clC at HBA
          dsimp only at c0 c1 c2 c3 c4 c5 c6 c7 c8 c9 c10 c11 c12 haeb HBA
          go_wp2_with (go_at_call 26; ((with_reducible refine (ca _ (pb2 HB3.out (pb2 HBE.out HBA.out))).mono ?_); clear ca; rintro e wa ⟨rfl, hba⟩; have HBa := Lib.hid (pb2 (pb2 HB3.out (pb2 HBE.out HBA.out)) hba); clear hba))
          go_ret
          exact ⟨by simp, HBa.out⟩
        have HER2 := Lib.hid (show ∀ i, i < n + 1 → (L.getD i zCl).a.err = 0 from fun i hi => by
          rcases Nat.lt_or_ge i n with h | h
          · exact HER.out i h
          · rw [show i = n by omega, HGD.out]; exact hae)
        have haeb : (c.a.err != 0) = false := by simpa using hae
        unfold DoIs Ad.val at cd
        generalize hAA : doA (stt z0 L n) c.o.c c.o.k c.o.h = A at cd HTE
        generalize hPP : doP (stt z0 L n) c.o.c c.o.k c.o.v = P at cd HNX
        obtain ⟨E, hE⟩ : ∃ E : Bool, decide (AdEq A c.a) = E := ⟨_, rfl⟩
        have cs := fun aa ca' W h1 h2 => rsame_ans A c.a aa pa ca' pc W h1 h2 E hE
        have HTE2 := Lib.hid (show tel z0 L n ↔ E = true from HTE.out.trans (by rw [← hE]; exact ⟨fun h => decide_eq_true (by rw [h]; exact AdEq.refl _), fun h => by
          obtain ⟨h1, h2, ⟨h3, h4⟩, h5, h6⟩ := of_decide_eq_true h
          cases A
          cases hm : c.a
          rw [hm] at h1 h2 h3 h4 h5 h6
          simp only at h1 h2 h3 h4 h5 h6
          subst h1 h2 h3 h4 h5 h6
          rfl⟩))
        clear hE hAA hPP HTE HGD hae
        obtain ⟨t, f, g, ⟨oc, ok, oh, ov⟩, ⟨ae, ao, ak, av, an, ap⟩⟩ := c
        unfold clC at HQ1 HBA
        unfold Ad.val at cs
        dsimp only at c0 c1 c2 c3 c4 c5 c6 c7 c8 c9 c10 c11 c12 cs cd HQ1 HBA haeb HPC
        have hown : ∀ k, (Value.slice au n cu).ownBlock = some k → w3.heap.size ≤ k ∧ k < wr.heap.size := fun k hk => ⟨Nat.le_of_not_lt (HNU.out.av k hk), (HNU.out.row.lt k hk).2⟩
        have HOWN := Lib.hid hown
        clear hown
        cases K
        · go_wp2_with (first
            | (go_at_call 34; ((with_reducible refine (cd _ HBA.out).mono ?_); clear cd; rintro e w6 ⟨ao6, cp6, aa, ca6, rfl, hP6, hA6, hb6⟩; have HP6 := Lib.hid (hP6.below (pal (w := w6) (.cells #[.int .i64 A.err, .bool A.ok, .int .i64 A.k, .int .i64 A.v, .int .i64 A.n, .slice aa A.ps.length ca6] 44))); have HA6 := Lib.hid ((hA6.prs rfl).below (pal (w := w6) (.cells #[.int .i64 A.err, .bool A.ok, .int .i64 A.k, .int .i64 A.v, .int .i64 A.n, .slice aa A.ps.length ca6] 44))); have HQ6 := Lib.hid (HQ1.out.keep hb6); have HB6 := Lib.hid (pb1 (pb2 HBA.out hb6) (.cells #[.int .i64 A.err, .bool A.ok, .int .i64 A.k, .int .i64 A.v, .int .i64 A.n, .slice aa A.ps.length ca6] 44)); have hlw := HQ6.out.lt; have hnz1 : ¬ wr.heap.size = w6.heap.size := (by omega); have hnz2 : ¬ w6.heap.size = wr.heap.size := (by omega); clear hP6 hA6 hb6; have q7 := HQ6.out.at_ 7 _ rfl; have q8 := HQ6.out.at_ 8 _ rfl; have q9 := HQ6.out.at_ 9 _ rfl; have q10 := HQ6.out.at_ 10 _ rfl; have q11 := HQ6.out.at_ 11 _ rfl; have q12 := HQ6.out.at_ 12 _ rfl))
            | (at_builtin; refine wpList_nums rfl (.tmp 83) (.tmp 85) rfl (fun j => j < _ ∧ ¬ (Value.slice au n cu).ownBlock = some j) (.slice au n cu) (upTo n) [(n : Int)] rfl (nums_own (HNU.out.below (pb1 HB6.out _))) (fun k hk => hk.1) _ rfl (by have h := src_one (w := w6.alloc (.cells #[.int .i64 A.err, .bool A.ok, .int .i64 A.k, .int .i64 A.v, .int .i64 A.n, .slice aa A.ps.length ca6] 44)) (n : Int); simp only [World.size_alloc] at h; exact h) (by simp [upTo_len]; omega) (n + 1) (by simp [upTo_len]) (upTo (n + 1)) (upTo_succ n).symm ?_; intro a8 c8' w8 hm8 hc8 hR8 hO8; have HR8 := Lib.hid (And.intro hR8 hO8); clear hR8 hO8; unfold maxLen at hm8)
            | fail)
          have hsz := HB6.out.size
          have hS : ∀ k, k < w3.heap.size → (k < ((w6.alloc (.cells #[.int .i64 A.err, .bool A.ok, .int .i64 A.k, .int .i64 A.v, .int .i64 A.n, .slice aa A.ps.length ca6] 44)).alloc (.cells #[.int .i64 (n : Int)] 3)).heap.size ∧ ¬ (Value.slice au n cu).ownBlock = some k) := fun k hk => ⟨by have h1 := HBE.out.size; simp; omega, fun e => by have := (HOWN.out k e).1; omega⟩
          have HNU8 := Lib.hid (HR8.out.1.sub (S' := fun j => j < w3.heap.size) (fun k _ hk => hS k hk))
          have HBE8 := Lib.hid (show Below w3.heap.size w3 w8 from (pb2 HBE.out (pb1 HB6.out _)).trans (HR8.out.2.below (fun i hi => Nat.le_of_not_lt (fun h => hi (hS i h))) (pb2 HBE.out (pb1 HB6.out _)).size))
          have HP8 := Lib.hid (prs_onlyC ((HP6.out.below (pal _)).prs rfl) HR8.out.2 (fun hp b o sp e => fun h => h ⟨plt ((HP6.out.below (pal _)).prs rfl) hp e, fun e2 => by
            have h1 := prow_b HP6.out hp e
            have h2 := (HOWN.out b e2).2
            exact h1 (by simp; omega)⟩))
          go_roundw
          case rel => exact ⟨n + 1, ao6, cp6, false, a8, c8', by have := HLT.out; omega, by go_num, by rw [HNX.out], by rw [HNX.out]; exact HP8.out, rfl, by constructor <;> intro h; cases h; exact HK.out.2 (tls_step.1 h).1, rfl, HNU8.out, HER2.out, HBE8.out⟩
          case measure => have := HLT.out; simp [intOf]; omega

        · go_wp2_with (first
            | (go_at_call 34; ((with_reducible refine (cd _ HBA.out).mono ?_); clear cd; rintro e w6 ⟨ao6, cp6, aa, ca6, rfl, hP6, hA6, hb6⟩; have HP6 := Lib.hid (hP6.below (pal (w := w6) (.cells #[.int .i64 A.err, .bool A.ok, .int .i64 A.k, .int .i64 A.v, .int .i64 A.n, .slice aa A.ps.length ca6] 44))); have HA6 := Lib.hid ((hA6.prs rfl).below (pal (w := w6) (.cells #[.int .i64 A.err, .bool A.ok, .int .i64 A.k, .int .i64 A.v, .int .i64 A.n, .slice aa A.ps.length ca6] 44))); have HQ6 := Lib.hid (HQ1.out.keep hb6); have HB6 := Lib.hid (pb1 (pb2 HBA.out hb6) (.cells #[.int .i64 A.err, .bool A.ok, .int .i64 A.k, .int .i64 A.v, .int .i64 A.n, .slice aa A.ps.length ca6] 44)); have hlw := HQ6.out.lt; have hnz1 : ¬ wr.heap.size = w6.heap.size := (by omega); have hnz2 : ¬ w6.heap.size = wr.heap.size := (by omega); clear hP6 hA6 hb6; have q7 := HQ6.out.at_ 7 _ rfl; have q8 := HQ6.out.at_ 8 _ rfl; have q9 := HQ6.out.at_ 9 _ rfl; have q10 := HQ6.out.at_ 10 _ rfl; have q11 := HQ6.out.at_ 11 _ rfl; have q12 := HQ6.out.at_ 12 _ rfl))
            | (go_at_call 35; ((with_reducible refine (cs _ _ _ HA6.out (HPC.out.below HB6.out)).mono ?_); clear cs; rintro e w7 ⟨rfl, hb7⟩; have HP7 := Lib.hid (HP6.out.below hb7); have HB7 := Lib.hid (pb2 HB6.out hb7); clear hb7))
            | (at_builtin; refine wpList_nums rfl (.tmp 83) (.tmp 85) rfl (fun j => j < _ ∧ ¬ (Value.slice au n cu).ownBlock = some j) (.slice au n cu) (upTo n) [(n : Int)] rfl (nums_own (HNU.out.below (pb1 HB7.out _))) (fun k hk => hk.1) _ rfl (src_one _) (by simp [upTo_len]; omega) (n + 1) (by simp [upTo_len]) (upTo (n + 1)) (upTo_succ n).symm ?_; intro a8 c8' w8 hm8 hc8 hR8 hO8; have HR8 := Lib.hid (And.intro hR8 hO8); clear hR8 hO8; unfold maxLen at hm8)
            | fail)
          have hsz := HB7.out.size
          have hS : ∀ k, k < w3.heap.size → (k < (w7.alloc (.cells #[.int .i64 (n : Int)] 3)).heap.size ∧ ¬ (Value.slice au n cu).ownBlock = some k) := fun k hk => ⟨by have h1 := HBE.out.size; simp; omega, fun e => by have := (HOWN.out k e).1; omega⟩
          have HNU8 := Lib.hid (HR8.out.1.sub (S' := fun j => j < w3.heap.size) (fun k _ hk => hS k hk))
          have HBE8 := Lib.hid (show Below w3.heap.size w3 w8 from (pb2 HBE.out (pb1 HB7.out _)).trans (HR8.out.2.below (fun i hi => Nat.le_of_not_lt (fun h => hi (hS i h))) (pb2 HBE.out (pb1 HB7.out _)).size))
          have HP8 := Lib.hid (prs_onlyC ((HP7.out.below (pal _)).prs rfl) HR8.out.2 (fun hp b o sp e => fun h => h ⟨plt ((HP7.out.below (pal _)).prs rfl) hp e, fun e2 => by
            have h1 := prow_b HP7.out hp e
            have h2 := (HOWN.out b e2).2
            exact h1 (by simp; omega)⟩))
          go_roundw
          case rel => exact ⟨n + 1, ao6, cp6, E, a8, c8', by have := HLT.out; omega, by go_num, by rw [HNX.out], by rw [HNX.out]; exact HP8.out, rfl, by rw [tls_step, ← HTE2.out]; exact ⟨fun h => ⟨HK.out.1 trivial, h⟩, fun h => h.2⟩, rfl, HNU8.out, HER2.out, HBE8.out⟩
          case measure => have := HLT.out; simp [intOf]; omega

      · obtain rfl : n = L.length := by omega
        obtain ⟨u1, u2, u3⟩ := HUP.out HER.out
        have HU3 := Lib.hid u3
        obtain ⟨V0, hV0⟩ : ∃ V0 : Bool, (z2.length == L.length) = V0 := ⟨_, rfl⟩
        have hV1 : ((z2.length : Int) == (L.length : Int)) = V0 := by
          rw [← hV0]
          rw [Bool.eq_iff_iff, beq_iff_eq, beq_iff_eq]
          omega
        have HV := Lib.hid (show V0 = true ↔ z2.length = L.length by rw [← hV0]; exact beq_iff_eq)
        have HKO := Lib.hid (HK.out.trans u1.symm)
        obtain ⟨w10, rfl⟩ : ∃ w10, w10 = wr := ⟨_, rfl⟩
        have HB10 := Lib.hid (pb2 HB3.out HBE.out)
        have cE := fun W (hb : Below w10.heap.size w10 W) => oends_any a0 a1 au cap0 cap1 cu z0 z1 (upTo L.length) W (HW0.out.below (pb2 HB10.out hb)) (HW1.out.keep (pb2 HB10.out hb)) (HNU.out.ri.below hb) (by omega) hN3 HPS.out (by rw [upTo_len]; omega) K HKO.out _ rfl
        rw [upTo_len, u2] at cE
        obtain ⟨B2, hB2⟩ := bool_is (ordR z0 z1 z2)
        have cT := fun W (hb : Below w.heap.size w W) => oright_any a0 a1 a2 cap0 cap1 cap2 z0 z1 z2 W (HW0.out.below hb) (HW1.out.keep hb) (HW2.out.below hb) (by omega) hN3 HPS.out (by omega) B2 hB2
        have HB2 := Lib.hid hB2
        have HC1 := HNU.out.ri.1
        have HC2 := HNU.out.ri.2.1
        unfold maxLen at HC2
        rw [upTo_len] at HC1
        have hcSP := fun a b c d W h1 h2 => samep_any a b c d (stt z0 L L.length) (stt z0 L L.length) W h1 h2 true (decide_eq_true rfl)
        clear u1 u2 u3 hB2
        go_wp2_with (fail)
        clear hV0 hV1
        go_loopw [95, 14] (fun i v wr => ∃ (n : Nat) (V : Bool), n ≤ z2.length ∧ i = .int .i64 n ∧ v = .bool V ∧ (V = true ↔ z2.length = L.length ∧ ∀ i : Nat, i < n → z2.getD i 0 = (i : Int)) ∧ Below w10.heap.size w10 wr) (fun i _ _ => z2.length - (intOf i).toNat)
        case atStart => exact ⟨0, V0, Nat.zero_le _, rfl, rfl, by rw [HV.out]; exact ⟨fun h => ⟨h, fun i hi => by omega⟩, fun h => h.1⟩, Below.refl _ _⟩
        case round =>
          obtain ⟨n, V, hnl2, rfl, rfl, hVV, hbe⟩ := hrel
          have HVV := Lib.hid hVV
          have HBR := Lib.hid hbe
          clear hVV hbe
          by_cases hlt2 : n < z2.length
          · obtain ⟨x, hx⟩ : ∃ x, z2[n]? = some x := ⟨_, List.getElem?_eq_getElem hlt2⟩
            obtain ⟨bi, oi, rfl, hxc⟩ := ri_at (HW2.out.below (pb2 HB10.out HBR.out)) hx
            have hxg : z2.getD n 0 = x := by rw [List.getD_eq_getElem?_getD, hx]; rfl
            have hn0 : (0 : Int) ≤ (n : Int) := Int.natCast_nonneg n
            have hnI : (n : Int) < (z2.length : Int) := Int.ofNat_lt.2 hlt2
            have HST := Lib.hid (show (∀ i : Nat, i < n + 1 → z2.getD i 0 = (i : Int)) ↔ (∀ i : Nat, i < n → z2.getD i 0 = (i : Int)) ∧ x = (n : Int) from ⟨fun h => ⟨fun i hi => h i (by omega), by rw [← hxg]; exact h n (by omega)⟩, fun h i hi => by
              rcases Nat.lt_or_ge i n with h1 | h1
              · exact h.1 i h1
              · rw [show i = n by omega, hxg]; exact h.2⟩)
            clear hx hxg
            have HLT := Lib.hid hlt2
            cases V
            · go_wp2_with (fail)
              go_roundw
              case rel => exact ⟨n + 1, false, by have := HLT.out; omega, by go_num, rfl, by
                constructor
                · intro h; cases h
                · intro h; exact HVV.out.2 ⟨h.1, (HST.out.1 h.2).1⟩, HBR.out⟩
              case measure => have := HLT.out; simp [intOf]; omega
            · obtain ⟨E, hE⟩ : ∃ E : Bool, (x == (n : Int)) = E := ⟨_, rfl⟩
              have HE := Lib.hid (show E = true ↔ x = (n : Int) by rw [← hE]; exact beq_iff_eq)
              go_wp2_with (fail)
              go_roundw
              case rel => exact ⟨n + 1, E, by have := HLT.out; omega, by go_num, rfl, by
                rw [HST.out, HE.out]
                exact ⟨fun h => ⟨(HVV.out.1 rfl).1, (HVV.out.1 rfl).2, h⟩, fun h => h.2.2⟩, HBR.out⟩
              case measure => have := HLT.out; simp [intOf]; omega
          · obtain rfl : n = z2.length := by omega
            have HVR := Lib.hid (show ordR z0 z1 z2 → V = true from fun h => HVV.out.2 (by
              have h2 := HU3.out z2 h
              refine ⟨by rw [h2, upTo_len], fun i hi => ?_⟩
              have h3 : i < L.length := by rw [h2, upTo_len] at hi; exact hi
              rw [h2]; exact upTo_at h3))
            have HB11 := Lib.hid HBR.out
            have cSP := hcSP
            cases K <;> cases B2
            · go_wp2_with (first
                | (go_at_call 27; ((with_reducible refine (cE _ HB11.out).mono ?_); clear cE; rintro e w12 ⟨ao12, cp12, rfl, hp12, hb12⟩; have HP12 := Lib.hid hp12; have HPM12 := Lib.hid (HPM.out.below (pb2 HB11.out hb12)); have HB12 := Lib.hid (pb2 HB11.out hb12); clear hb12 hp12))
                | (go_at_call 29; ((with_reducible refine (cT _ (pb2 HB10.out HB12.out)).mono ?_); clear cT; rintro e w14 ⟨rfl, hb14⟩; have HB14 := Lib.hid (pb2 (pb2 HB10.out HB12.out) hb14); clear hb14))
                | (go_at_call 26; ((with_reducible refine (ca _ HB14.out).mono ?_); clear ca; rintro e wa ⟨rfl, hba⟩; have HBa := Lib.hid (pb2 HB14.out hba); clear hba))
                | fail)
              go_ret
              exact ⟨by simp, HBa.out⟩
            · obtain rfl : V = true := HVR.out (HB2.out.1 rfl)
              go_wp2_with (first
                | (go_at_call 27; ((with_reducible refine (cE _ HB11.out).mono ?_); clear cE; rintro e w12 ⟨ao12, cp12, rfl, hp12, hb12⟩; have HP12 := Lib.hid hp12; have HPM12 := Lib.hid (HPM.out.below (pb2 HB11.out hb12)); have HB12 := Lib.hid (pb2 HB11.out hb12); clear hb12 hp12))
                | (go_at_call 29; ((with_reducible refine (cT _ (pb2 HB10.out HB12.out)).mono ?_); clear cT; rintro e w14 ⟨rfl, hb14⟩; have HB14 := Lib.hid (pb2 (pb2 HB10.out HB12.out) hb14); clear hb14))
                | (go_at_call 26; ((with_reducible refine (ca _ HB14.out).mono ?_); clear ca; rintro e wa ⟨rfl, hba⟩; have HBa := Lib.hid (pb2 HB14.out hba); clear hba))
                | fail)
              go_ret
              exact ⟨by simp, HBa.out⟩
            · simp only [if_true] at cE
              go_wp2_with (first
                | (go_at_call 27; ((with_reducible refine (cE _ HB11.out).mono ?_); clear cE; rintro e w12 ⟨ao12, cp12, rfl, hp12, hb12⟩; have HP12 := Lib.hid hp12; have HPM12 := Lib.hid (HPM.out.below (pb2 HB11.out hb12)); have HB12 := Lib.hid (pb2 HB11.out hb12); clear hb12 hp12))
                | (go_at_call 19; ((with_reducible refine (cSP _ _ _ _ _ HP12.out HPM12.out).mono ?_); clear cSP; rintro e w13 ⟨rfl, hb13⟩; have HB13 := Lib.hid (pb2 HB12.out hb13); clear hb13))
                | (go_at_call 29; ((with_reducible refine (cT _ (pb2 HB10.out HB13.out)).mono ?_); clear cT; rintro e w14 ⟨rfl, hb14⟩; have HB14 := Lib.hid (pb2 (pb2 HB10.out HB13.out) hb14); clear hb14))
                | (go_at_call 26; ((with_reducible refine (ca _ HB14.out).mono ?_); clear ca; rintro e wa ⟨rfl, hba⟩; have HBa := Lib.hid (pb2 HB14.out hba); clear hba))
                | fail)
              go_ret
              exact ⟨by simp, HBa.out⟩
            · obtain rfl : V = true := HVR.out (HB2.out.1 rfl)
              simp only [if_true] at cE
              go_wp2_with (first
                | (go_at_call 27; ((with_reducible refine (cE _ HB11.out).mono ?_); clear cE; rintro e w12 ⟨ao12, cp12, rfl, hp12, hb12⟩; have HP12 := Lib.hid hp12; have HPM12 := Lib.hid (HPM.out.below (pb2 HB11.out hb12)); have HB12 := Lib.hid (pb2 HB11.out hb12); clear hb12 hp12))
                | (go_at_call 19; ((with_reducible refine (cSP _ _ _ _ _ HP12.out HPM12.out).mono ?_); clear cSP; rintro e w13 ⟨rfl, hb13⟩; have HB13 := Lib.hid (pb2 HB12.out hb13); clear hb13))
                | (go_at_call 29; ((with_reducible refine (cT _ (pb2 HB10.out HB13.out)).mono ?_); clear cT; rintro e w14 ⟨rfl, hb14⟩; have HB14 := Lib.hid (pb2 (pb2 HB10.out HB13.out) hb14); clear hb14))
                | (go_at_call 26; ((with_reducible refine (ca _ HB14.out).mono ?_); clear ca; rintro e wa ⟨rfl, hba⟩; have HBa := Lib.hid (pb2 HB14.out hba); clear hba))
                | fail)
              go_ret
              exact ⟨by simp, HBa.out⟩

set_option maxRecDepth 100000 in
theorem lifted (os : Os) (started : os.Started) (H : Type) (enc : TypeId × Value → H) :
    ReturnsInHanded {} Try.checked os 6 .any (Rows.orderSoloSpec.pre6 enc Try.prog Try.f6 Rows.orderSoloRow.domain false) (Rows.orderSoloSpec.post enc Try.prog Try.f6 false true false false) := by
  refine returnsInHanded_of_change_sized (C := Try.checked) own started (by kernel_rfl) Try.func6
    (ChangeSpec.witness6 (enc := enc) (C := Try.checked) false ⟨#[], #[.slice none 0 0, .slice none 0 0, .slice none 0 0], []⟩ 8 (by kernel_rfl) (by kernel_rfl) (by kernel_rfl) (by kernel_rfl)) ?_
  intro W base args ds gs before hval0 hW hcnd hsz _
  have hval : ∀ (j : Nat) t v, Try.f6.params[j]? = some t → args[j]? = some v → Value.okWide Try.prog W .any base t v := hval0
  have hW' := hW
  obtain ⟨p, q, hA0, hV, rfl, hfz, hnd⟩ := hW
  have hA : DataW.TrodAll enc Try.prog W 0 (fun _ => true) true Try.f6.params.toList args.toList ds p := hA0
  rw [Try.params6] at hA hval
  obtain ⟨v0, vs0, d0, ds0, p0, q0, hargs, rfl, rfl, h0, r0⟩ := trodAll_cons hA
  obtain ⟨v1, vs1, d1, ds1, p1, q1, rfl, rfl, rfl, h1, r1⟩ := trodAll_cons r0
  obtain ⟨v2, vs2, d2, ds2, p2, q2, rfl, rfl, rfl, h2, r2⟩ := trodAll_cons r1
  obtain ⟨rfl, rfl, rfl⟩ := trodAll_nil r2
  obtain rfl : args = #[v0, v1, v2] := by cases args; simp_all
  obtain ⟨rfl, rfl⟩ := trodVars_none hV
  have k0 := h0
  have lt0 : ∀ x ∈ p0, x.block < W.heap.size := by obtain ⟨m, hm⟩ := k0; exact DataW.trod_lt m _ _ _ hm
  obtain ⟨b0, l0, c0, rfl⟩ := okWide_slice Try.underlying42 (hval 0 42 v0 rfl rfl)
  obtain ⟨a0, cap0, z0, e0, w0⟩ := open_pairs (enc := enc) (w := W) (v := .slice b0 l0 c0) (fuel := h0.choose) (by simpa [Value.cells] using h0.choose_spec)
  rw [e0] at hval k0 h0 hW' hval0 hA0
  have k1 := h1
  have lt1 : ∀ x ∈ p1, x.block < W.heap.size := by obtain ⟨m, hm⟩ := k1; exact DataW.trod_lt m _ _ _ hm
  obtain ⟨b1, l1, c1, rfl⟩ := okWide_slice Try.underlying52 (hval 1 52 v1 rfl rfl)
  obtain ⟨a1, cap1, z1, e1, w1, s1⟩ := open_events (enc := enc) (w := W) (v := .slice b1 l1 c1) (fuel := h1.choose) (by simpa [Value.cells] using h1.choose_spec) (fun n hn => by simpa using List.all_eq_true.1 hsz n (DataW.weights_mem_each (j := 1) rfl rfl n hn))
  rw [e1] at hval k1 h1 hW' hval0 hA0
  have k2 := h2
  have lt2 : ∀ x ∈ p2, x.block < W.heap.size := by obtain ⟨m, hm⟩ := k2; exact DataW.trod_lt m _ _ _ hm
  obtain ⟨b2, l2, c2, rfl⟩ := okWide_slice Try.underlying37 (hval 2 37 v2 rfl rfl)
  obtain ⟨a2, cap2, z2, e2, w2⟩ := open_ri (enc := enc) (w := W) (v := .slice b2 l2 c2) (fuel := h2.choose) (by simpa [Value.cells] using h2.choose_spec)
  rw [e2] at hval k2 h2 hW' hval0 hA0
  clear hA0 hval0
  rw [e0]; rw [e1]; rw [e2]; refine (walk a0 cap0 z0 a1 cap1 z1 a2 cap2 z2 W w0 w1 s1 w2).mono fun e W' ⟨he, bel⟩ => ?_
  subst he
  exact ⟨_, rfl, _, _, _, [], _, [], hW', trodAll_mk1 (shut_bool Try.underlying4 _), (trodAll_cons_mk (Below.trod laidOut (by kernel_rfl) (of_decide_eq_true (by kernel_rfl)) k0 bel lt0) (trodAll_cons_mk (Below.trod laidOut (by kernel_rfl) (of_decide_eq_true (by kernel_rfl)) k1 bel lt1) (trodAll_cons_mk (Below.trod laidOut (by kernel_rfl) (of_decide_eq_true (by kernel_rfl)) k2 bel lt2) trodAll_mk0))), rfl, bel.frame _, fun h => by cases h⟩

theorem over : Rows.orderSoloRow.holds Try.pinned (OpenSpec.ofChange Rows.orderSoloSpec) :=
  OpenClaim.holds_of_wide 6 Try.f6 rfl rfl rfl rfl rfl rfl rfl ⟨rfl, rfl, rfl, rfl, rfl⟩ rfl rfl rfl rfl rfl (by kernel_rfl) Try.func6 (by kernel_rfl)
    (of_decide_eq_true (by kernel_rfl)) (by unfold Func.isWrapper; first | (rw [if_pos (by decide +kernel)]; kernel_rfl) | (rw [if_neg (by decide +kernel)]; exact ⟨rfl, rfl⟩))
    (fun os started H enc _ => lifted os started H enc)

theorem orderSoloHolds : Rows.OrderSoloSaid := over
#print axioms orderSoloHolds
end Go.Proofs.Ytijepfabkalcoaa.orderSolo
