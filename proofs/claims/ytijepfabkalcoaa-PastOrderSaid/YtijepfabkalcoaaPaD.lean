/- past.May, past.Calls, past.Over, past.Solo exactly. No condition: lemmas. -/
import Derived.Test.YtijepfabkalcoaaPaC
import Derived.Lib.SliceRun
import Derived.Deep.RegionHeld3
import Derived.Deep.CutRange
import Derived.Deep.RegionLaw
namespace Go.Proofs.Ytijepfabkalcoaa
open Go.RowKit
set_option linter.all false
set_option maxRecDepth 20000

set_option maxHeartbeats 1600000 in
theorem pclone_some (ad : Addr) (cap : Nat) (l : List Pr) (w : World) (h : Prs w (some ad) cap l) (hl : l.length ≤ 1100000) :
    Calls Try.prog 50 #[.slice (some ad) l.length cap] w (RowIs w l) := by
  have ba : Below w.heap.size w (w.alloc (.cells #[] 41)) := (Below.refl _ _).alloc (Nat.le_refl _) _
  have HH := Lib.hid (h.below ba)
  have HP := Lib.hid (PRow.lit w)
  have hc1 := h.1
  have hc2 := h.2.1
  clear h
  unfold maxLen at hc2
  go_enter Try.func50, Try.ntmps50
  have hq := fun W => Lib.run_eql_slice_nil (P := Try.prog) W 42 41 (some ad) l.length cap 0 0 Try.underlying42
  simp only [Option.isNone] at hq
  go_wp2_with (at_builtin; refine wpList_app rfl (.tmp 5) (.tmp 6) rfl (fun j => j < w.heap.size) _ [] l rfl HP.out (fun k hk => by simp; omega) _ rfl (src_any HH.out) (by simp; omega) l.length (by simp) l rfl ?_; intro ao cp w1 hm1 hc3 hR hO; have HF := Lib.hid (And.intro hR hO); clear hR hO; unfold maxLen at hm1)
  go_ret
  exact ⟨_, _, rfl, HF.out.1, only_below (w0 := w) ba HF.out.2 (fun k hk => hk)⟩
/-- slices.Clone. -/
theorem pclone_any (a : Option Addr) (cap : Nat) (l : List Pr) (w : World) (h : Prs w a cap l) (hl : l.length ≤ 1100000) :
    Calls Try.prog 50 #[.slice a l.length cap] w (RowIs w l) := by
  cases a with
  | some ad => exact pclone_some ad cap l w h hl
  | none =>
    have e0 := h.2.2.2 rfl
    have e1 : l = [] := List.eq_nil_of_length_eq_zero (by have := h.1; omega)
    subst e0
    subst e1
    clear h
    have hq := fun W => Lib.run_eql_slice_nil (P := Try.prog) W 42 41 none 0 0 0 0 Try.underlying42
    simp only [Option.isNone] at hq
    go_enter Try.func50, Try.ntmps50
    go_wp2_with (fail)
    go_ret
    exact ⟨_, _, rfl, PRow.nil _ _, Below.refl _ _⟩


/-- What past.Calls tells: the calls; none. -/
def callsL (N : List EvD) : List ClD := match mtch N with
  | none => []
  | some s => s.l
def clF (c : ClD) : Value := .agg #[.int .i64 c.t]
theorem CRow.cs {W : World} {Q : Nat → Prop} {M : List RC} {ao : Option Addr} {n cap : Nat} (h : CRow W Q (.slice ao n cap) M) : n = M.length ∧ Cs W ao cap (M.map (fun m => m.n)) := h.ns
theorem set_sameC {l : List ClD} {n : Nat} {c : ClD} (h : l[n]? = some c) : l.set n c = l := by
  apply List.ext_getElem?
  intro i
  rw [List.getElem?_set]
  split
  · rename_i e; subst e; rw [if_pos (List.getElem?_eq_some_iff.1 h).1, h]
  · rfl
theorem calls_ps {N : List EvD} {s : Mt} (h : mtch N = some s) (B : Nat) (hb : ∀ e ∈ N, e.a.ps.length ≤ B) : ∀ c ∈ s.l, c.a.ps.length ≤ B := fun c hc => by
  obtain ⟨i, hi⟩ := List.getElem?_of_mem hc
  obtain ⟨_, _, h3⟩ := (minv N _ s h).has i c hi
  rcases h3 with ⟨_, _, h4⟩ | ⟨_, q, _, _, h4, _, h5⟩
  · rw [h4]; exact Nat.zero_le _
  · rw [← h5, List.getD_eq_getElem?_getD, List.getElem?_eq_getElem h4]
    exact hb _ (List.getElem_mem h4)

set_option maxRecDepth 100000 in
set_option maxHeartbeats 6400000 in
theorem may_anyP (a : Option Addr) (cap : Nat) (N : List EvD) (w : World) (hN : Es w a cap N) (hl : N.length ≤ 300) (B : Bool) (hB : (mtch N).isSome = B) :
    Calls Try.prog 21 #[.slice a N.length cap] w fun e w' => e = .returned (.bool B) ∧ Below w.heap.size w w' := by
  have cm := matched_any a cap N w hN hl
  clear hN
  cases hm : mtch N with
  | none =>
    rw [hm] at hB
    obtain rfl : B = false := hB.symm
    have HM := Lib.hid hm
    clear hm hB
    go_enter Try.func21, Try.ntmps21
    go_wp2_with (go_at_call 48; ((with_reducible refine cm.mono ?_); clear cm; rintro e w2 ⟨hb2, ⟨-, rfl⟩ | ⟨s, ao, c, M, h1, rfl, -⟩⟩; rotate_left; (rw [HM.out] at h1; cases h1)))
    go_ret
    exact ⟨by simp, hb2⟩
  | some s0 =>
    rw [hm] at hB
    obtain rfl : B = true := hB.symm
    have HM := Lib.hid hm
    clear hm hB
    go_enter Try.func21, Try.ntmps21
    go_wp2_with (go_at_call 48; ((with_reducible refine cm.mono ?_); clear cm; rintro e w2 ⟨hb2, ⟨h1, rfl⟩ | ⟨s, ao, c, M, h1, rfl, -⟩⟩; (rw [HM.out] at h1; cases h1)))
    go_ret
    exact ⟨by simp, hb2⟩

/-- What past.Calls tells. -/
def CsIs (w : World) (L : List ClD) (e : Ending) (w' : World) : Prop := ∃ ao cap, e = .returned (.slice ao L.length cap) ∧ Cs w' ao cap L ∧ Below w.heap.size w w'
set_option maxRecDepth 100000 in
set_option maxHeartbeats 6400000 in
theorem calls_any (a : Option Addr) (cap : Nat) (N : List EvD) (w : World) (hN : Es w a cap N) (hl : N.length ≤ 300) (hp : ∀ e ∈ N, e.a.ps.length ≤ 1100000) (L : List ClD) (hL : callsL N = L) :
    Calls Try.prog 24 #[.slice a N.length cap] w (CsIs w L) := by
  have cm := matched_any a cap N w hN hl
  unfold callsL at hL
  clear hN
  cases hm : mtch N with
  | none =>
    rw [hm] at hL
    obtain rfl : L = [] := hL.symm
    have HM := Lib.hid hm
    clear hm hL hp
    go_enter Try.func24, Try.ntmps24
    go_wp2_with (go_at_call 48; ((with_reducible refine cm.mono ?_); clear cm; rintro e w2 ⟨hb2, ⟨-, rfl⟩ | ⟨s, ao, c, M, h1, rfl, -⟩⟩; rotate_left; (rw [HM.out] at h1; cases h1)))
    go_loopw [13] (fun i wr => i = .int .i64 0 ∧ wr = w2) (fun _ _ => 0)
    case atStart => exact ⟨rfl, rfl⟩
    case round =>
      obtain ⟨rfl, rfl⟩ := hrel
      go_wp2_with (fail)
      go_ret
      exact ⟨none, 0, by simp, Cs.none _, hb2⟩
  | some s0 =>
    have hps := calls_ps hm 1100000 hp
    rw [hm] at hL
    dsimp only at hL
    have hs := (minv N _ s0 hm).nb
    have hcl := (cnt_le N N.length).1
    have HPS := Lib.hid hps
    have HM := Lib.hid hm
    have HL := Lib.hid hL
    have HLN := Lib.hid (show s0.l.length ≤ 300 by omega)
    clear hm hL hp hps hs hcl
    go_enter Try.func24, Try.ntmps24
    go_wp2_with (go_at_call 48; ((with_reducible refine cm.mono ?_); clear cm; rintro e w2 ⟨hb2, ⟨h1, rfl⟩ | ⟨s, ao, c, M, h1, rfl, hR, hML, hown⟩⟩; (rw [HM.out] at h1; cases h1)))
    obtain rfl : s0 = s := by have := HM.out; rw [h1] at this; cases this; rfl
    have hlen : M.length = s0.l.length := by rw [← hML, List.length_map]
    have HB2 := Lib.hid hb2
    have HR := Lib.hid hR
    have HML := Lib.hid hML
    have HOW := Lib.hid hown
    have hM3 : M.length ≤ 300 := by rw [hlen]; exact HLN.out
    clear hb2 hR hML hown h1 hlen
    go_loopw [13] (fun i wr => ∃ (n : Nat) (M' : List RC), n ≤ M.length ∧ i = .int .i64 n ∧ M'.map (fun m => m.n) = s0.l ∧ CRow wr (fun _ => False) (.slice ao M.length c) M' ∧ Below w.heap.size w wr) (fun i _ => M.length - (intOf i).toNat)
    case atStart => exact ⟨0, M, Nat.zero_le _, rfl, HML.out, HR.out, HB2.out⟩
    case round =>
      obtain ⟨n, M', hn, rfl, hM', hR', hb'⟩ := hrel
      have HM' := Lib.hid hM'
      have HB' := Lib.hid hb'
      have HR' := Lib.hid hR'
      clear hM' hb'
      by_cases hlt : n < M.length
      · have hl' : M'.length = M.length := by have := hR'.cs.1; omega
        obtain ⟨m, hm⟩ : ∃ m, M'[n]? = some m := ⟨_, List.getElem?_eq_getElem (by omega)⟩
        obtain ⟨gl, rfl, -, hca, hfr⟩ := hR'.at hm
        have hpl : m.n.a.ps.length ≤ 1100000 := HPS.out _ (by rw [← HM'.out]; exact List.mem_map.2 ⟨m, List.mem_of_getElem? hm, rfl⟩)
        obtain ⟨-, -, -, -, -, -, -, -, -, -, -, -, c12⟩ := hca.ex
        have cl := fun W (hb : Below wr.heap.size wr W) => pclone_any m.a m.c m.n.a.ps W (hca.ps.below hb) hpl
        have hn0 : (0 : Int) ≤ (n : Int) := Int.natCast_nonneg n
        have hnl : (n : Int) < (M.length : Int) := Int.ofNat_lt.2 hlt
        have HMM := Lib.hid hm
        have HGL := Lib.hid (show w.heap.size ≤ gl from HOW.out gl rfl)
        have HGW := Lib.hid (show gl < wr.heap.size from (hR'.row.lt gl rfl).2)
        have f12 := hfr (n * 13 + 12)
        have cl1 := cl _ (Below.refl _ _)
        clear hR' hm hca hfr hpl cl
        obtain ⟨⟨t, f, g, o, ⟨ae, ak, av, an, aq, ap⟩⟩, pa, pc⟩ := m
        dsimp only at c12 cl1
        go_wp2_with (go_at_call 50; ((with_reducible refine cl1.mono ?_); clear cl1; rintro e w3 ⟨ao3, cp3, rfl, hR3, hb3⟩; have d12 := pkc hb3 c12; have g12 := (hb3.frozen (p := ⟨gl, n * 13 + 12, none⟩) HGW.out).trans f12; clear c12 f12; have HR3 := Lib.hid hR3; have HB3 := Lib.hid hb3; clear hR3 hb3))
        have HF := Lib.hid ((HR'.out.keep HB3.out).cell HMM.out ⟨⟨t, f, g, o, ⟨ae, ak, av, an, aq, ap⟩⟩, ao3, cp3⟩ 12 (.slice ao3 ap.length cp3) (by decide) rfl (HR3.out.prs rfl) (fun hp b' o' sp e => ⟨fun x => x, fun e' => by
          obtain ⟨q, l, hl'⟩ := List.exists_cons_of_ne_nil hp
          obtain ⟨b2, cap2, e2, _⟩ := row_at HR3.out.row (by dsimp only at hl' ⊢; rw [hl']; simp)
          simp only [Value.slice.injEq] at e2
          dsimp only at e
          rw [e] at e2
          have e3 := e2.1
          cases e3
          exact HR3.out.av gl (by rw [e]; exact congrArg some e'.symm) HGW.out⟩))
        go_roundw
        case rel =>
          refine ⟨n + 1, _, by omega, by go_num, ?_, HF.out.keep (by first | exact Below.refl _ _ | exact (Below.refl _ _).drew), ?_⟩
          · rw [List.map_set, HM'.out]
            have : s0.l[n]? = some ⟨t, f, g, o, ⟨ae, ak, av, an, aq, ap⟩⟩ := by rw [← HM'.out, List.getElem?_map, HMM.out]; rfl
            exact set_sameC this
          · exact Below.setCell (pb2 HB'.out HB3.out) HGL.out _
        case measure => simp [intOf]; omega
      · obtain rfl : n = M.length := by omega
        go_wp2_with (fail)
        go_ret
        have hcs := HR'.out.cs
        rw [HM'.out, HL.out] at hcs
        have hL2 : M.length = L.length := by rw [hcs.1, ← HL.out, ← HM'.out, List.length_map]
        exact ⟨ao, c, by simp [hL2], hcs.2, HB'.out⟩

set_option maxRecDepth 100000 in
set_option maxHeartbeats 6400000 in
theorem over1_any (m : ClD) (pa : Option Addr) (pc : Nat) (w : World) (B : Bool) (hB : decide (0 ≤ m.g) = B) : Calls Try.prog 62 #[clV m pa pc] w fun e w' => e = .returned (.bool !B) ∧ Below w.heap.size w w' := by
  have cr := fun W => ret_any m pa pc W B hB
  clear hB
  obtain ⟨t, f, g, ⟨oc, ok, oh, ov⟩, ⟨ae, ao, ak, av, an, ap⟩⟩ := m
  unfold clV at *
  dsimp only at cr ⊢
  have HB := Lib.hid (pal (w := w) (.cells #[.int .i64 t, .int .i64 f, .int .i64 g, .int .i64 oc, .int .i64 ok, .int .i64 oh, .int .i64 ov, .int .i64 ae, .bool ao, .int .i64 ak, .int .i64 av, .int .i64 an, .slice pa ap.length pc] 59))
  go_enter Try.func62, Try.ntmps62
  go_wp2_with (go_at_call 51; ((with_reducible refine (cr _).mono ?_); clear cr; rintro e w3 ⟨rfl, hb3⟩; have HB3 := Lib.hid (pb2 HB.out hb3); clear hb3))
  go_ret
  exact ⟨by simp, HB3.out⟩
set_option maxRecDepth 100000 in
set_option maxHeartbeats 6400000 in
theorem ixc_any (a : Option Addr) (cap : Nat) (l : List ClD) (w : World) (h : Cs w a cap l) :
    Calls Try.prog 90 #[.slice a l.length cap, .func (.func 62) #[] #[]] w fun e w' => (∃ n : Int, e = .returned (.int .i64 n) ∧ (0 ≤ n ↔ ¬ ovr l)) ∧ Below w.heap.size w w' := by
  have HH := Lib.hid h
  have hc1 := h.1
  have hc2 := h.2.1
  clear h
  unfold maxLen at hc2
  go_enter Try.func90, Try.ntmps90
  go_wp2_with (fail)
  go_loopw [8] (fun i wr => ∃ n : Nat, n ≤ l.length ∧ i = .int .i64 n ∧ (∀ z ∈ l.take n, 0 ≤ z.g) ∧ Below w.heap.size w wr) (fun i _ => l.length - (intOf i).toNat)
  case atStart => exact ⟨0, Nat.zero_le _, rfl, by simp, Below.refl _ _⟩
  case round =>
    obtain ⟨n, hn, rfl, hno, hb⟩ := hrel
    have HNO := Lib.hid hno
    clear hno
    by_cases hlt : n < l.length
    · obtain ⟨q, hq⟩ : ∃ q, l[n]? = some q := ⟨_, List.getElem?_eq_getElem hlt⟩
      obtain ⟨b, o, pa, pc, rfl, hca⟩ := (HH.out.keep hb).2.2 n q hq
      obtain ⟨c0, c1, c2, c3, c4, c5, c6, c7, c8, c9, c10, c11, c12⟩ := hca.ex
      have HQ := Lib.hid hq
      have hn0 : (0 : Int) ≤ (n : Int) := Int.natCast_nonneg n
      have hnl : (n : Int) < (l.length : Int) := Int.ofNat_lt.2 hlt
      have HBR := Lib.hid hb
      clear hq hca hb
      by_cases hk : 0 ≤ q.g
      · have c := over1_any q pa pc wr true (decide_eq_true hk)
        have HK := Lib.hid hk
        clear hk
        obtain ⟨t, f, g, ⟨oc, ok, oh, ov⟩, ⟨ae, ao, ak, av, an, ap⟩⟩ := q
        unfold clV at c
        dsimp only at c c0 c1 c2 c3 c4 c5 c6 c7 c8 c9 c10 c11 c12
        go_wp2_with (go_at_call 62; ((with_reducible refine c.mono ?_); clear c; rintro e w2 ⟨rfl, hb2⟩))
        go_roundw
        case rel =>
          refine ⟨n + 1, by omega, by go_num, fun z hz => ?_, pb2 HBR.out hb2⟩
          rw [List.take_succ_eq_append_getElem hlt, List.mem_append] at hz
          rcases hz with hz | hz
          · exact HNO.out z hz
          · rw [List.mem_singleton.1 hz]
            have := (List.getElem?_eq_some_iff.1 HQ.out).2
            rw [this]; exact HK.out
        case measure => simp [intOf]; omega
      · have c := over1_any q pa pc wr false (decide_eq_false hk)
        have HK := Lib.hid hk
        clear hk
        obtain ⟨t, f, g, ⟨oc, ok, oh, ov⟩, ⟨ae, ao, ak, av, an, ap⟩⟩ := q
        unfold clV at c
        dsimp only at c c0 c1 c2 c3 c4 c5 c6 c7 c8 c9 c10 c11 c12
        go_wp2_with (go_at_call 62; ((with_reducible refine c.mono ?_); clear c; rintro e w2 ⟨rfl, hb2⟩))
        go_ret
        exact ⟨⟨_, rfl, ⟨fun _ h => by have h1 := h _ (List.mem_of_getElem? HQ.out); have h2 := HK.out; dsimp only at h1; omega, fun _ => by omega⟩⟩, pb2 HBR.out hb2⟩
    · obtain rfl : n = l.length := by omega
      go_wp2_with (fail)
      go_ret
      refine ⟨⟨_, rfl, ⟨fun h => absurd h (by decide), fun hh => absurd (fun q hq => HNO.out q (by rw [List.take_of_length_le (Nat.le_refl _)]; exact hq)) hh⟩⟩, hb⟩
theorem ctc_any (a : Option Addr) (cap : Nat) (l : List ClD) (w : World) (h : Cs w a cap l) (B : Bool) (hB : B = true ↔ ¬ ovr l) :
    Calls Try.prog 61 #[.slice a l.length cap, .func (.func 62) #[] #[]] w fun e w' => e = .returned (.bool B) ∧ Below w.heap.size w w' := by
  have c := ixc_any a cap l w h
  rw [← hB] at c
  clear hB
  go_enter Try.func61, Try.ntmps61
  go_wp2_with (go_at_call 90; ((with_reducible refine c.mono ?_); clear c; rintro e w2 ⟨⟨n, rfl, hn⟩, hb2⟩))
  go_ret
  exact ⟨by cases B <;> simp_all, hb2⟩
instance ovrDec (l : List ClD) : Decidable (ovr l) := by unfold ovr; infer_instance
/-- It is over. -/
def overB (N : List EvD) : Bool := match mtch N with
  | none => false
  | some s => decide (ovr s.l)
set_option maxRecDepth 100000 in
set_option maxHeartbeats 6400000 in
theorem over_any (a : Option Addr) (cap : Nat) (N : List EvD) (w : World) (hN : Es w a cap N) (hl : N.length ≤ 300) (B : Bool) (hB : overB N = B) :
    Calls Try.prog 32 #[.slice a N.length cap] w fun e w' => e = .returned (.bool B) ∧ Below w.heap.size w w' := by
  have cm := matched_any a cap N w hN hl
  unfold overB at hB
  clear hN
  cases hm : mtch N with
  | none =>
    rw [hm] at hB
    obtain rfl : B = false := hB.symm
    have HM := Lib.hid hm
    clear hm hB
    go_enter Try.func32, Try.ntmps32
    go_wp2_with (go_at_call 48; ((with_reducible refine cm.mono ?_); clear cm; rintro e w2 ⟨hb2, ⟨-, rfl⟩ | ⟨s, ao, c, M, h1, rfl, -⟩⟩; rotate_left; (rw [HM.out] at h1; cases h1)))
    go_ret
    exact ⟨by simp, hb2⟩
  | some s0 =>
    rw [hm] at hB
    have HBB := Lib.hid (show decide (ovr s0.l) = B from hB)
    have HM := Lib.hid hm
    clear hm hB
    go_enter Try.func32, Try.ntmps32
    go_wp2_with (first
      | (go_at_call 48; ((with_reducible refine cm.mono ?_); clear cm; rintro e w2 ⟨hb2, ⟨h1, rfl⟩ | ⟨s, ao, c, M, h1, rfl, hR, hML, hown⟩⟩; (rw [HM.out] at h1; cases h1)); obtain rfl : s0 = s := (by have := HM.out; rw [h1] at this; cases this; rfl); have hcs := hR.cs.2; rw [hML] at hcs; have hcl : M.length = s0.l.length := (by rw [← hML, List.length_map]); rw [hcl]; have cc := ctc_any ao c s0.l w2 hcs (!B) (by rw [← HBB.out]; simp); have HB2 := Lib.hid hb2; clear hb2 hR hML hown h1 hcs hcl)
      | (go_at_call 61; ((with_reducible refine cc.mono ?_); clear cc; rintro e w3 ⟨rfl, hb3⟩))
      | fail)
    go_ret
    exact ⟨by simp, pb2 HB2.out hb3⟩

instance sloDec (l : List ClD) : Decidable (slo l) := decidable_of_iff (∀ i, i < l.length → 0 < i → bef (l.getD (i - 1) zCl) (l.getD i zCl)) ⟨fun h i h1 h2 => h i h2 h1, fun h i h1 h2 => h i h2 h1⟩
/-- One after the other. -/
def soloB (N : List EvD) : Bool := match mtch N with
  | none => false
  | some s => decide (slo s.l)
theorem slo_step {l : List ClD} {n : Nat} {c d : ClD} (hc : l[n]? = some c) (hd : l[n + 1]? = some d) : bef c d ↔ bef (l.getD (n + 1 - 1) zCl) (l.getD (n + 1) zCl) := by
  rw [Nat.add_sub_cancel, List.getD_eq_getElem?_getD, List.getD_eq_getElem?_getD, hc, hd]; exact Iff.rfl
set_option maxRecDepth 100000 in
set_option maxHeartbeats 12800000 in
theorem solo_any (a : Option Addr) (cap : Nat) (N : List EvD) (w : World) (hN : Es w a cap N) (hl : N.length ≤ 300) (B : Bool) (hB : soloB N = B) :
    Calls Try.prog 31 #[.slice a N.length cap] w fun e w' => e = .returned (.bool B) ∧ Below w.heap.size w w' := by
  have cm := matched_any a cap N w hN hl
  unfold soloB at hB
  clear hN
  cases hm : mtch N with
  | none =>
    rw [hm] at hB
    obtain rfl : B = false := hB.symm
    have HM := Lib.hid hm
    clear hm hB
    go_enter Try.func31, Try.ntmps31
    go_wp2_with (go_at_call 48; ((with_reducible refine cm.mono ?_); clear cm; rintro e w2 ⟨hb2, ⟨-, rfl⟩ | ⟨s, ao, c, M, h1, rfl, -⟩⟩; rotate_left; (rw [HM.out] at h1; cases h1)))
    go_loopw [5] (fun i wr => i = .int .i64 1 ∧ wr = w2) (fun _ _ => 0)
    case atStart => exact ⟨rfl, rfl⟩
    case round =>
      obtain ⟨rfl, rfl⟩ := hrel
      go_wp2_with (fail)
      go_ret
      exact ⟨by simp, hb2⟩
  | some s0 =>
    rw [hm] at hB
    have HBB := Lib.hid (show decide (slo s0.l) = B from hB)
    have hs := (minv N _ s0 hm).nb
    have hcl := (cnt_le N N.length).1
    have HM := Lib.hid hm
    have hLN : s0.l.length ≤ 300 := by omega
    clear hm hB hs hcl
    go_enter Try.func31, Try.ntmps31
    go_wp2_with (go_at_call 48; ((with_reducible refine cm.mono ?_); clear cm; rintro e w2 ⟨hb2, ⟨h1, rfl⟩ | ⟨s, ao, c, M, h1, rfl, hR, hML, hown⟩⟩; (rw [HM.out] at h1; cases h1)))
    obtain rfl : s0 = s := by have := HM.out; rw [h1] at this; cases this; rfl
    have hcs := hR.cs.2
    rw [hML] at hcs
    have hcl : M.length = s0.l.length := by rw [← hML, List.length_map]
    rw [hcl]
    have HB2 := Lib.hid hb2
    have HC := Lib.hid hcs
    obtain ⟨l, hll⟩ : ∃ l, s0.l = l := ⟨_, rfl⟩
    rw [hll] at HBB HC hLN ⊢
    clear hb2 hR hML hown h1 hcs hcl hll
    go_loopw [5] (fun i wr => ∃ n : Nat, (n + 1 ≤ l.length ∨ n = 0) ∧ i = .int .i64 ((n : Int) + 1) ∧ (∀ i, 0 < i → i < n + 1 → bef (l.getD (i - 1) zCl) (l.getD i zCl)) ∧ Below w2.heap.size w2 wr) (fun i _ => l.length - (intOf i).toNat)
    case atStart => exact ⟨0, .inr rfl, rfl, fun i h1 h2 => by omega, Below.refl _ _⟩
    case round =>
      obtain ⟨n, hn, rfl, hno, hb⟩ := hrel
      have HNO := Lib.hid hno
      have HBR := Lib.hid hb
      by_cases hlt : n + 1 < l.length
      · obtain ⟨p, hp⟩ : ∃ q, l[n]? = some q := ⟨_, List.getElem?_eq_getElem (by omega)⟩
        obtain ⟨q, hq⟩ : ∃ q, l[n + 1]? = some q := ⟨_, List.getElem?_eq_getElem hlt⟩
        obtain ⟨b, o, pa1, pc1, hao, hca⟩ := (HC.out.keep hb).2.2 n p hp
        obtain ⟨b', o', pa2, pc2, hao', hcb⟩ := (HC.out.keep hb).2.2 (n + 1) q hq
        subst hao
        cases hao'
        obtain ⟨c0, c1, c2, c3, c4, c5, c6, c7, c8, c9, c10, c11, c12⟩ := hca.ex
        obtain ⟨d0, d1, d2, d3, d4, d5, d6, d7, d8, d9, d10, d11, d12⟩ := hcb.ex
        have hn0 : (0 : Int) ≤ (n : Int) := Int.natCast_nonneg n
        have hnl : (n : Int) + 1 < (l.length : Int) := by omega
        have hnl2 : (n : Int) < (l.length : Int) := by omega
        have hn1 : (0 : Int) ≤ (n : Int) + 1 := by omega
        have hw1 : wrap64 ((n : Int) + 1 - 1) = (n : Int) := by unfold wrap64; omega
        have hw3 : wrap64 ((n : Int) + 1 + 1) = (n : Int) + 1 + 1 := by unfold wrap64; omega
        have htn : ((n : Int) + 1).toNat = n + 1 := by omega
        have hw2 : IntKind.i64.wrap ((n : Int) + 1 - 1) = (n : Int) := (wrapEqP _).trans hw1
        have hw4 : IntKind.i64.wrap (n : Int) = (n : Int) := (wrapEqP _).trans (by unfold wrap64; omega)
        have HSB := Lib.hid (slo_step hp hq)
        obtain ⟨B2, hB2⟩ : ∃ B2 : Bool, decide (bef p q) = B2 := ⟨_, rfl⟩
        have c := fun W => bef_any p q pa1 pa2 pc1 pc2 W B2 hB2
        have HB3 := Lib.hid hB2
        clear hp hq hca hcb hno hb hB2 hn
        obtain ⟨t1, f1, g1, ⟨oc1, ok1, oh1, ov1⟩, ⟨ae1, ao1, ak1, av1, an1, ap1⟩⟩ := p
        obtain ⟨t2, f2, g2, ⟨oc2, ok2, oh2, ov2⟩, ⟨ae2, ao2, ak2, av2, an2, ap2⟩⟩ := q
        unfold clV at c
        dsimp only at c c0 c1 c2 c3 c4 c5 c6 c7 c8 c9 c10 c11 c12 d0 d1 d2 d3 d4 d5 d6 d7 d8 d9 d10 d11 d12
        go_wp2_with (fail)
        refine wp_region_held_drew (S := fun W => W.cell? ⟨b, o + n * 13, none⟩ = some (.int .i64 t1) ∧ W.cell? ⟨b, o + n * 13 + 1, none⟩ = some (.int .i64 f1) ∧ W.cell? ⟨b, o + n * 13 + 2, none⟩ = some (.int .i64 g1) ∧ W.cell? ⟨b, o + n * 13 + 3, none⟩ = some (.int .i64 oc1) ∧ W.cell? ⟨b, o + n * 13 + 4, none⟩ = some (.int .i64 ok1) ∧ W.cell? ⟨b, o + n * 13 + 5, none⟩ = some (.int .i64 oh1) ∧ W.cell? ⟨b, o + n * 13 + 6, none⟩ = some (.int .i64 ov1) ∧ W.cell? ⟨b, o + n * 13 + 7, none⟩ = some (.int .i64 ae1) ∧ W.cell? ⟨b, o + n * 13 + 8, none⟩ = some (.bool ao1) ∧ W.cell? ⟨b, o + n * 13 + 9, none⟩ = some (.int .i64 ak1) ∧ W.cell? ⟨b, o + n * 13 + 10, none⟩ = some (.int .i64 av1) ∧ W.cell? ⟨b, o + n * 13 + 11, none⟩ = some (.int .i64 an1) ∧ W.cell? ⟨b, o + n * 13 + 12, none⟩ = some (.slice pa1 ap1.length pc1) ∧ W.cell? ⟨b, o + (n + 1) * 13, none⟩ = some (.int .i64 t2) ∧ W.cell? ⟨b, o + (n + 1) * 13 + 1, none⟩ = some (.int .i64 f2) ∧ W.cell? ⟨b, o + (n + 1) * 13 + 2, none⟩ = some (.int .i64 g2) ∧ W.cell? ⟨b, o + (n + 1) * 13 + 3, none⟩ = some (.int .i64 oc2) ∧ W.cell? ⟨b, o + (n + 1) * 13 + 4, none⟩ = some (.int .i64 ok2) ∧ W.cell? ⟨b, o + (n + 1) * 13 + 5, none⟩ = some (.int .i64 oh2) ∧ W.cell? ⟨b, o + (n + 1) * 13 + 6, none⟩ = some (.int .i64 ov2) ∧ W.cell? ⟨b, o + (n + 1) * 13 + 7, none⟩ = some (.int .i64 ae2) ∧ W.cell? ⟨b, o + (n + 1) * 13 + 8, none⟩ = some (.bool ao2) ∧ W.cell? ⟨b, o + (n + 1) * 13 + 9, none⟩ = some (.int .i64 ak2) ∧ W.cell? ⟨b, o + (n + 1) * 13 + 10, none⟩ = some (.int .i64 av2) ∧ W.cell? ⟨b, o + (n + 1) * 13 + 11, none⟩ = some (.int .i64 an2) ∧ W.cell? ⟨b, o + (n + 1) * 13 + 12, none⟩ = some (.slice pa2 ap2.length pc2) ∧ Below wr.heap.size wr W) (by kernel_rfl) (by first | exact ⟨c0, c1, c2, c3, c4, c5, c6, c7, c8, c9, c10, c11, c12, d0, d1, d2, d3, d4, d5, d6, d7, d8, d9, d10, d11, d12, Below.refl _ _⟩ | exact ⟨c0, c1, c2, c3, c4, c5, c6, c7, c8, c9, c10, c11, c12, d0, d1, d2, d3, d4, d5, d6, d7, d8, d9, d10, d11, d12, (Below.refl _ _).drew⟩) (fun hHeld => ?_)
        refine wpAnyH_take (i := 0) (v := ?_) rfl (by kernel_rfl) (by kernel_rfl) (by kernel_rfl) (fun _ _ _ h => h) (Or.inl ⟨by rfl, ?_⟩) hHeld ?_
        rotate_left
        · (intro wS hSw; (try dsimp only at hSw); (try go_split_ands); go_simp; try with_reducible rfl)
        try simp only [List.getElem_toArray, List.getElem_cons_succ, List.getElem_cons_zero, Act.put, List.setIfInBounds_toArray, List.set_cons_zero, List.set_cons_succ]
        refine wpAnyH_take (i := 1) (v := ?_) rfl (by kernel_rfl) (by kernel_rfl) (by kernel_rfl) (fun _ _ _ h => h) (Or.inl ⟨by rfl, ?_⟩) hHeld ?_
        rotate_left
        · (intro wS hSw; (try dsimp only at hSw); (try go_split_ands); go_simp; try with_reducible rfl)
        try simp only [List.getElem_toArray, List.getElem_cons_succ, List.getElem_cons_zero, Act.put, List.setIfInBounds_toArray, List.set_cons_zero, List.set_cons_succ]
        refine wpAnyH_take (i := 2) (v := ?_) rfl (by kernel_rfl) (by kernel_rfl) (by kernel_rfl) (fun _ _ _ h => h) (Or.inl ⟨by rfl, ?_⟩) hHeld ?_
        rotate_left
        · (intro wS hSw; (try dsimp only at hSw); (try go_split_ands); go_simp; try with_reducible rfl)
        try simp only [List.getElem_toArray, List.getElem_cons_succ, List.getElem_cons_zero, Act.put, List.setIfInBounds_toArray, List.set_cons_zero, List.set_cons_succ]
        refine wpAnyH_take (i := 3) (v := ?_) rfl (by kernel_rfl) (by kernel_rfl) (by kernel_rfl) (fun _ _ _ h => h) (Or.inl ⟨by rfl, ?_⟩) hHeld ?_
        rotate_left
        · (intro wS hSw; (try dsimp only at hSw); (try go_split_ands); go_simp; try with_reducible rfl)
        try simp only [List.getElem_toArray, List.getElem_cons_succ, List.getElem_cons_zero, Act.put, List.setIfInBounds_toArray, List.set_cons_zero, List.set_cons_succ]
        refine wpAnyH_take (i := 4) (v := ?_) rfl (by kernel_rfl) (by kernel_rfl) (by kernel_rfl) (fun _ _ _ h => h) (Or.inl ⟨by rfl, ?_⟩) hHeld ?_
        rotate_left
        · (intro wS hSw; (try dsimp only at hSw); (try go_split_ands); go_simp; try with_reducible rfl)
        try simp only [List.getElem_toArray, List.getElem_cons_succ, List.getElem_cons_zero, Act.put, List.setIfInBounds_toArray, List.set_cons_zero, List.set_cons_succ]
        refine wpAnyH_take (i := 5) (v := ?_) rfl (by kernel_rfl) (by kernel_rfl) (by kernel_rfl) (fun _ _ _ h => h) (Or.inl ⟨by rfl, ?_⟩) hHeld ?_
        rotate_left
        · (intro wS hSw; (try dsimp only at hSw); (try go_split_ands); go_simp; try with_reducible rfl)
        try simp only [List.getElem_toArray, List.getElem_cons_succ, List.getElem_cons_zero, Act.put, List.setIfInBounds_toArray, List.set_cons_zero, List.set_cons_succ]
        refine wpAnyH_take (i := 6) (v := ?_) rfl (by kernel_rfl) (by kernel_rfl) (by kernel_rfl) (fun _ _ _ h => h) (Or.inl ⟨by rfl, ?_⟩) hHeld ?_
        rotate_left
        · (intro wS hSw; (try dsimp only at hSw); (try go_split_ands); go_simp; try with_reducible rfl)
        try simp only [List.getElem_toArray, List.getElem_cons_succ, List.getElem_cons_zero, Act.put, List.setIfInBounds_toArray, List.set_cons_zero, List.set_cons_succ]
        refine wpAnyH_take (i := 7) (v := ?_) rfl (by kernel_rfl) (by kernel_rfl) (by kernel_rfl) (fun _ _ _ h => h) (Or.inl ⟨by rfl, ?_⟩) hHeld ?_
        rotate_left
        · (intro wS hSw; (try dsimp only at hSw); (try go_split_ands); go_simp; try with_reducible rfl)
        try simp only [List.getElem_toArray, List.getElem_cons_succ, List.getElem_cons_zero, Act.put, List.setIfInBounds_toArray, List.set_cons_zero, List.set_cons_succ]
        refine wpAnyH_take (i := 8) (v := ?_) rfl (by kernel_rfl) (by kernel_rfl) (by kernel_rfl) (fun _ _ _ h => h) (Or.inl ⟨by rfl, ?_⟩) hHeld ?_
        rotate_left
        · (intro wS hSw; (try dsimp only at hSw); (try go_split_ands); go_simp; try with_reducible rfl)
        try simp only [List.getElem_toArray, List.getElem_cons_succ, List.getElem_cons_zero, Act.put, List.setIfInBounds_toArray, List.set_cons_zero, List.set_cons_succ]
        refine wpAnyH_ready (rs := [9]) (by kernel_rfl) (by simp) ?_
        refine AllReadyH.cons rfl (fun K hK => ?_) AllReadyH.nil
        go_simp
        (go_at_call 25; ((with_reducible refine (c _).mono ?_); rintro e Y ⟨rfl, hbY⟩))
        refine hK.out _ _ ?_ (fun hNext => ?_)
        · exact ⟨pkc hbY hHeld.1, pkc hbY hHeld.2.1, pkc hbY hHeld.2.2.1, pkc hbY hHeld.2.2.2.1, pkc hbY hHeld.2.2.2.2.1, pkc hbY hHeld.2.2.2.2.2.1, pkc hbY hHeld.2.2.2.2.2.2.1, pkc hbY hHeld.2.2.2.2.2.2.2.1, pkc hbY hHeld.2.2.2.2.2.2.2.2.1, pkc hbY hHeld.2.2.2.2.2.2.2.2.2.1, pkc hbY hHeld.2.2.2.2.2.2.2.2.2.2.1, pkc hbY hHeld.2.2.2.2.2.2.2.2.2.2.2.1, pkc hbY hHeld.2.2.2.2.2.2.2.2.2.2.2.2.1, pkc hbY hHeld.2.2.2.2.2.2.2.2.2.2.2.2.2.1, pkc hbY hHeld.2.2.2.2.2.2.2.2.2.2.2.2.2.2.1, pkc hbY hHeld.2.2.2.2.2.2.2.2.2.2.2.2.2.2.2.1, pkc hbY hHeld.2.2.2.2.2.2.2.2.2.2.2.2.2.2.2.2.1, pkc hbY hHeld.2.2.2.2.2.2.2.2.2.2.2.2.2.2.2.2.2.1, pkc hbY hHeld.2.2.2.2.2.2.2.2.2.2.2.2.2.2.2.2.2.2.1, pkc hbY hHeld.2.2.2.2.2.2.2.2.2.2.2.2.2.2.2.2.2.2.2.1, pkc hbY hHeld.2.2.2.2.2.2.2.2.2.2.2.2.2.2.2.2.2.2.2.2.1, pkc hbY hHeld.2.2.2.2.2.2.2.2.2.2.2.2.2.2.2.2.2.2.2.2.2.1, pkc hbY hHeld.2.2.2.2.2.2.2.2.2.2.2.2.2.2.2.2.2.2.2.2.2.2.1, pkc hbY hHeld.2.2.2.2.2.2.2.2.2.2.2.2.2.2.2.2.2.2.2.2.2.2.2.1, pkc hbY hHeld.2.2.2.2.2.2.2.2.2.2.2.2.2.2.2.2.2.2.2.2.2.2.2.2.1, pkc hbY hHeld.2.2.2.2.2.2.2.2.2.2.2.2.2.2.2.2.2.2.2.2.2.2.2.2.2.1, pb2 hHeld.2.2.2.2.2.2.2.2.2.2.2.2.2.2.2.2.2.2.2.2.2.2.2.2.2.2 hbY⟩
        clear hbY
        clear hK K hHeld
        have hHeld := hNext
        clear hNext
        try simp only [List.getElem_toArray, List.getElem_cons_succ, List.getElem_cons_zero, Act.put, List.setIfInBounds_toArray, List.set_cons_zero, List.set_cons_succ]
        refine wpAnyH_take (i := 10) (v := ?_) rfl (by kernel_rfl) (by kernel_rfl) (by kernel_rfl) (fun _ _ _ h => h) (Or.inl ⟨by rfl, ?_⟩) hHeld ?_
        rotate_left
        · (intro wS hSw; (try dsimp only at hSw); (try go_split_ands); go_simp; try with_reducible rfl)
        try simp only [List.getElem_toArray, List.getElem_cons_succ, List.getElem_cons_zero, Act.put, List.setIfInBounds_toArray, List.set_cons_zero, List.set_cons_succ]
        refine wpAnyH_done (by kernel_rfl) ?_ _
        clear c0 c1 c2 c3 c4 c5 c6 c7 c8 c9 c10 c11 c12 d0 d1 d2 d3 d4 d5 d6 d7 d8 d9 d10 d11 d12 c hw1 hw2 hw4 htn
        cases B2
        · have hBf : B = false := by
            rw [← HBB.out]
            exact decide_eq_false (fun x => of_decide_eq_false HB3.out (HSB.out.2 (x (n + 1) (by omega) hlt)))
          subst hBf
          have HE := Lib.hid hHeld.2.2.2.2.2.2.2.2.2.2.2.2.2.2.2.2.2.2.2.2.2.2.2.2.2.2
          clear hHeld
          go_wp2_with (fail)
          go_ret
          exact ⟨by simp, pb2 HB2.out (pb2 HBR.out HE.out)⟩
        · have HE := Lib.hid hHeld.2.2.2.2.2.2.2.2.2.2.2.2.2.2.2.2.2.2.2.2.2.2.2.2.2.2
          clear hHeld
          go_wp2_with (fail)
          go_roundw
          case rel =>
            refine ⟨n + 1, .inl (by omega), by go_num, fun i h1 h2 => ?_, pb2 HBR.out HE.out⟩
            by_cases e : i = n + 1
            · subst e; exact HSB.out.1 (of_decide_eq_true HB3.out)
            · exact HNO.out i h1 (by omega)
          case measure => simp [intOf]; omega
      · have hBt : B = true := by
          rw [← HBB.out]
          refine decide_eq_true (fun i h1 h2 => hno i h1 (by omega))
        subst hBt
        have hnl : ¬ (n : Int) + 1 < (l.length : Int) := by omega
        clear hno hb
        go_wp2_with (fail)
        go_ret
        exact ⟨by simp, pb2 HB2.out HBR.out⟩
end Go.Proofs.Ytijepfabkalcoaa
