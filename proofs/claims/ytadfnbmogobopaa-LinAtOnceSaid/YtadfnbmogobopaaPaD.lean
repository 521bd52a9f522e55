/- past.May, past.Calls, past.Over, past.Solo exactly. No condition: lemmas. -/
import Derived.Test.YtadfnbmogobopaaPaC
import Derived.Lib.SliceRun
import Derived.Deep.RegionHeld3
import Derived.Deep.CutRange
import Derived.Deep.RegionLaw
namespace Go.Proofs.Ytadfnbmogobopaa
open Go.RowKit
set_option linter.all false
set_option maxRecDepth 20000

set_option maxHeartbeats 1600000 in
theorem pclone_some (ad : Addr) (cap : Nat) (l : List Pr) (w : World) (h : Prs w (some ad) cap l) (hl : l.length ≤ 1100000) :
    Calls Try.prog 28 #[.slice (some ad) l.length cap] w (RowIs w l) := by
  have ba : Below w.heap.size w (w.alloc (.cells #[] 32)) := (Below.refl _ _).alloc (Nat.le_refl _) _
  have HH := Lib.hid (h.below ba)
  have HP := Lib.hid (PRow.lit w)
  have hc1 := h.1
  have hc2 := h.2.1
  clear h
  unfold maxLen at hc2
  go_enter Try.func28, Try.ntmps28
  have hq := fun W => Lib.run_eql_slice_nil (P := Try.prog) W 22 32 (some ad) l.length cap 0 0 Try.underlying22
  simp only [Option.isNone] at hq
  go_wp2_with (at_builtin; refine wpList_app rfl (.tmp 5) (.tmp 6) rfl (fun j => j < w.heap.size) _ [] l rfl HP.out (fun k hk => by simp; omega) _ rfl (src_any HH.out) (by simp; omega) l.length (by simp) l rfl ?_; intro ao cp w1 hm1 hc3 hR hO; have HF := Lib.hid (And.intro hR hO); clear hR hO; unfold maxLen at hm1)
  go_ret
  exact ⟨_, _, rfl, HF.out.1, only_below (w0 := w) ba HF.out.2 (fun k hk => hk)⟩
/-- slices.Clone. -/
theorem pclone_any (a : Option Addr) (cap : Nat) (l : List Pr) (w : World) (h : Prs w a cap l) (hl : l.length ≤ 1100000) :
    Calls Try.prog 28 #[.slice a l.length cap] w (RowIs w l) := by
  cases a with
  | some ad => exact pclone_some ad cap l w h hl
  | none =>
    have e0 := h.2.2.2 rfl
    have e1 : l = [] := List.eq_nil_of_length_eq_zero (by have := h.1; omega)
    subst e0
    subst e1
    clear h
    have hq := fun W => Lib.run_eql_slice_nil (P := Try.prog) W 22 32 none 0 0 0 0 Try.underlying22
    simp only [Option.isNone] at hq
    go_enter Try.func28, Try.ntmps28
    go_wp2_with (fail)
    go_ret
    exact ⟨_, _, rfl, PRow.nil _ _, Below.refl _ _⟩


/-- What past.Calls tells: the calls; none. -/
def callsL (N : List EvD) : List ClD := match mtch N with
  | none => []
  | some s => s.l
def clF (c : ClD) : Value := .agg #[.int .i64 c.t]
theorem CRow.cs {W : World} {Q : Nat → Prop} {M : List RC} {ao : Option Addr} {n cap : Nat} (h : CRow W Q (.slice ao n cap) M) : n = M.length ∧ Cs W ao cap (M.map (fun m => m.n)) := h.ns
theorem set_sameC {l : List ClD} {n : Nat} {c : ClD} (h : l[n]? = some c) : l.set n c = l := by
  apply List.ext_getElem?
  intro i
  rw [List.getElem?_set]
  split
  · rename_i e; subst e; rw [if_pos (List.getElem?_eq_some_iff.1 h).1, h]
  · rfl
theorem calls_ps {N : List EvD} {s : Mt} (h : mtch N = some s) (B : Nat) (hb : ∀ e ∈ N, e.a.ps.length ≤ B) : ∀ c ∈ s.l, c.a.ps.length ≤ B := fun c hc => by
  obtain ⟨i, hi⟩ := List.getElem?_of_mem hc
  obtain ⟨_, _, h3⟩ := (minv N _ s h).has i c hi
  rcases h3 with ⟨_, _, h4⟩ | ⟨_, q, _, _, h4, _, h5⟩
  · rw [h4]; exact Nat.zero_le _
  · rw [← h5, List.getD_eq_getElem?_getD, List.getElem?_eq_getElem h4]
    exact hb _ (List.getElem_mem h4)

set_option maxRecDepth 100000 in
set_option maxHeartbeats 6400000 in
theorem may_anyP (a : Option Addr) (cap : Nat) (N : List EvD) (w : World) (hN : Es w a cap N) (hl : N.length ≤ 300) (B : Bool) (hB : (mtch N).isSome = B) :
    Calls Try.prog 19 #[.slice a N.length cap] w fun e w' => e = .returned (.bool B) ∧ Below w.heap.size w w' := by
  have cm := matched_any a cap N w hN hl
  clear hN
  cases hm : mtch N with
  | none =>
    rw [hm] at hB
    obtain rfl : B = false := hB.symm
    have HM := Lib.hid hm
    clear hm hB
    go_enter Try.func19, Try.ntmps19
    go_wp2_with (go_at_call 27; ((with_reducible refine cm.mono ?_); clear cm; rintro e w2 ⟨hb2, ⟨-, rfl⟩ | ⟨s, ao, c, M, h1, rfl, -⟩⟩; rotate_left; (rw [HM.out] at h1; cases h1)))
    go_ret
    exact ⟨by simp, hb2⟩
  | some s0 =>
    rw [hm] at hB
    obtain rfl : B = true := hB.symm
    have HM := Lib.hid hm
    clear hm hB
    go_enter Try.func19, Try.ntmps19
    go_wp2_with (go_at_call 27; ((with_reducible refine cm.mono ?_); clear cm; rintro e w2 ⟨hb2, ⟨h1, rfl⟩ | ⟨s, ao, c, M, h1, rfl, -⟩⟩; (rw [HM.out] at h1; cases h1)))
    go_ret
    exact ⟨by simp, hb2⟩

/-- What past.Calls tells. -/
def CsIs (w : World) (L : List ClD) (e : Ending) (w' : World) : Prop := ∃ ao cap, e = .returned (.slice ao L.length cap) ∧ Cs w' ao cap L ∧ Below w.heap.size w w'
set_option maxRecDepth 100000 in
set_option maxHeartbeats 6400000 in
theorem calls_any (a : Option Addr) (cap : Nat) (N : List EvD) (w : World) (hN : Es w a cap N) (hl : N.length ≤ 300) (hp : ∀ e ∈ N, e.a.ps.length ≤ 1100000) (L : List ClD) (hL : callsL N = L) :
    Calls Try.prog 17 #[.slice a N.length cap] w (CsIs w L) := by
  have cm := matched_any a cap N w hN hl
  unfold callsL at hL
  clear hN
  cases hm : mtch N with
  | none =>
    rw [hm] at hL
    obtain rfl : L = [] := hL.symm
    have HM := Lib.hid hm
    clear hm hL hp
    go_enter Try.func17, Try.ntmps17
    go_wp2_with (go_at_call 27; ((with_reducible refine cm.mono ?_); clear cm; rintro e w2 ⟨hb2, ⟨-, rfl⟩ | ⟨s, ao, c, M, h1, rfl, -⟩⟩; rotate_left; (rw [HM.out] at h1; cases h1)))
    go_loopw [13] (fun i wr => i = .int .i64 0 ∧ wr = w2) (fun _ _ => 0)
    case atStart => exact ⟨rfl, rfl⟩
    case round =>
      obtain ⟨rfl, rfl⟩ := hrel
      go_wp2_with (fail)
      go_ret
      exact ⟨none, 0, by simp, Cs.none _, hb2⟩
  | some s0 =>
    have hps := calls_ps hm 1100000 hp
    rw [hm] at hL
    dsimp only at hL
    have hs := (minv N _ s0 hm).nb
    have hcl := (cnt_le N N.length).1
    have HPS := Lib.hid hps
    have HM := Lib.hid hm
    have HL := Lib.hid hL
    have HLN := Lib.hid (show s0.l.length ≤ 300 by omega)
    clear hm hL hp hps hs hcl
    go_enter Try.func17, Try.ntmps17
    go_wp2_with (go_at_call 27; ((with_reducible refine cm.mono ?_); clear cm; rintro e w2 ⟨hb2, ⟨h1, rfl⟩ | ⟨s, ao, c, M, h1, rfl, hR, hML, hown⟩⟩; (rw [HM.out] at h1; cases h1)))
    obtain rfl : s0 = s := by have := HM.out; rw [h1] at this; cases this; rfl
    have hlen : M.length = s0.l.length := by rw [← hML, List.length_map]
    have HB2 := Lib.hid hb2
    have HR := Lib.hid hR
    have HML := Lib.hid hML
    have HOW := Lib.hid hown
    have hM3 : M.length ≤ 300 := by rw [hlen]; exact HLN.out
    clear hb2 hR hML hown h1 hlen
    go_loopw [13] (fun i wr => ∃ (n : Nat) (M' : List RC), n ≤ M.length ∧ i = .int .i64 n ∧ M'.map (fun m => m.n) = s0.l ∧ CRow wr (fun _ => False) (.slice ao M.length c) M' ∧ Below w.heap.size w wr) (fun i _ => M.length - (intOf i).toNat)
    case atStart => exact ⟨0, M, Nat.zero_le _, rfl, HML.out, HR.out, HB2.out⟩
    case round =>
      obtain ⟨n, M', hn, rfl, hM', hR', hb'⟩ := hrel
      have HM' := Lib.hid hM'
      have HB' := Lib.hid hb'
      have HR' := Lib.hid hR'
      clear hM' hb'
      by_cases hlt : n < M.length
      · have hl' : M'.length = M.length := by have := hR'.cs.1; omega
        obtain ⟨m, hm⟩ : ∃ m, M'[n]? = some m := ⟨_, List.getElem?_eq_getElem (by omega)⟩
        obtain ⟨gl, rfl, -, hca, hfr⟩ := hR'.at hm
        have hpl : m.n.a.ps.length ≤ 1100000 := HPS.out _ (by rw [← HM'.out]; exact List.mem_map.2 ⟨m, List.mem_of_getElem? hm, rfl⟩)
        obtain ⟨-, -, -, -, -, -, -, -, -, -, -, -, c12⟩ := hca.ex
        have cl := fun W (hb : Below wr.heap.size wr W) => pclone_any m.a m.c m.n.a.ps W (hca.ps.below hb) hpl
        have hn0 : (0 : Int) ≤ (n : Int) := Int.natCast_nonneg n
        have hnl : (n : Int) < (M.length : Int) := Int.ofNat_lt.2 hlt
        have HMM := Lib.hid hm
        have HGL := Lib.hid (show w.heap.size ≤ gl from HOW.out gl rfl)
        have HGW := Lib.hid (show gl < wr.heap.size from (hR'.row.lt gl rfl).2)
        have f12 := hfr (n * 13 + 12)
        have cl1 := cl _ (Below.refl _ _)
        clear hR' hm hca hfr hpl cl
        obtain ⟨⟨t, f, g, o, ⟨ae, ak, av, an, aq, ap⟩⟩, pa, pc⟩ := m
        dsimp only at c12 cl1
        go_wp2_with (go_at_call 28; ((with_reducible refine cl1.mono ?_); clear cl1; rintro e w3 ⟨ao3, cp3, rfl, hR3, hb3⟩; have d12 := pkc hb3 c12; have g12 := (hb3.frozen (p := ⟨gl, n * 13 + 12, none⟩) HGW.out).trans f12; clear c12 f12; have HR3 := Lib.hid hR3; have HB3 := Lib.hid hb3; clear hR3 hb3))
        have HF := Lib.hid ((HR'.out.keep HB3.out).cell HMM.out ⟨⟨t, f, g, o, ⟨ae, ak, av, an, aq, ap⟩⟩, ao3, cp3⟩ 12 (.slice ao3 ap.length cp3) (by decide) rfl (HR3.out.prs rfl) (fun hp b' o' sp e => ⟨fun x => x, fun e' => by
          obtain ⟨q, l, hl'⟩ := List.exists_cons_of_ne_nil hp
          obtain ⟨b2, cap2, e2, _⟩ := row_at HR3.out.row (by dsimp only at hl' ⊢; rw [hl']; simp)
          simp only [Value.slice.injEq] at e2
          dsimp only at e
          rw [e] at e2
          have e3 := e2.1
          cases e3
          exact HR3.out.av gl (by rw [e]; exact congrArg some e'.symm) HGW.out⟩))
        go_roundw
        case rel =>
          refine ⟨n + 1, _, by omega, by go_num, ?_, HF.out.keep (by first | exact Below.refl _ _ | exact (Below.refl _ _).drew), ?_⟩
          · rw [List.map_set, HM'.out]
            have : s0.l[n]? = some ⟨t, f, g, o, ⟨ae, ak, av, an, aq, ap⟩⟩ := by rw [← HM'.out, List.getElem?_map, HMM.out]; rfl
            exact set_sameC this
          · exact Below.setCell (pb2 HB'.out HB3.out) HGL.out _
        case measure => simp [intOf]; omega
      · obtain rfl : n = M.length := by omega
        go_wp2_with (fail)
        go_ret
        have hcs := HR'.out.cs
        rw [HM'.out, HL.out] at hcs
        have hL2 : M.length = L.length := by rw [hcs.1, ← HL.out, ← HM'.out, List.length_map]
        exact ⟨ao, c, by simp [hL2], hcs.2, HB'.out⟩

instance ovrDec (l : List ClD) : Decidable (ovr l) := by unfold ovr; infer_instance
/-- It is over. -/
def overB (N : List EvD) : Bool := match mtch N with
  | none => false
  | some s => decide (ovr s.l)

instance sloDec (l : List ClD) : Decidable (slo l) := decidable_of_iff (∀ i, i < l.length → 0 < i → bef (l.getD (i - 1) zCl) (l.getD i zCl)) ⟨fun h i h1 h2 => h i h2 h1, fun h i h1 h2 => h i h2 h1⟩
/-- One after the other. -/
def soloB (N : List EvD) : Bool := match mtch N with
  | none => false
  | some s => decide (slo s.l)
theorem slo_step {l : List ClD} {n : Nat} {c d : ClD} (hc : l[n]? = some c) (hd : l[n + 1]? = some d) : bef c d ↔ bef (l.getD (n + 1 - 1) zCl) (l.getD (n + 1) zCl) := by
  rw [Nat.add_sub_cancel, List.getD_eq_getElem?_getD, List.getD_eq_getElem?_getD, hc, hd]; exact Iff.rfl
end Go.Proofs.Ytadfnbmogobopaa
