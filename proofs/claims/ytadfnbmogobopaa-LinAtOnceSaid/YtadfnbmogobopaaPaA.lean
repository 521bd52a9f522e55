/- past.returned, past.Before, past.begins, osierref18.zero, osierlaw18.Light. No condition: lemmas. -/
import Derived.Test.YtadfnbmogobopaaPaX
namespace Go.Proofs.Ytadfnbmogobopaa
open Go.RowKit
set_option linter.all false
set_option maxRecDepth 20000

def evV (e : EvD) (pa : Option Addr) (pc : Nat) : Value := .agg #[.int .i64 e.t, .bool e.r, .int .i64 e.o.c, .int .i64 e.o.k, .int .i64 e.o.h, .int .i64 e.o.v, .int .i64 e.a.err, .bool e.a.ok, .int .i64 e.a.k, .int .i64 e.a.v, .int .i64 e.a.n, .slice pa e.a.ps.length pc]
def clV (m : ClD) (pa : Option Addr) (pc : Nat) : Value := .agg #[.int .i64 m.t, .int .i64 m.f, .int .i64 m.g, .int .i64 m.o.c, .int .i64 m.o.k, .int .i64 m.o.h, .int .i64 m.o.v, .int .i64 m.a.err, .bool m.a.ok, .int .i64 m.a.k, .int .i64 m.a.v, .int .i64 m.a.n, .slice pa m.a.ps.length pc]
theorem EA.ex {w : World} {b o : Nat} {pa : Option Addr} {pc : Nat} {e : EvD} (h : EA w b o pa pc e) :
    w.cell? ⟨b, o, none⟩ = some (.int .i64 e.t) ∧ w.cell? ⟨b, o + 1, none⟩ = some (.bool e.r) ∧ w.cell? ⟨b, o + 2, none⟩ = some (.int .i64 e.o.c) ∧ w.cell? ⟨b, o + 3, none⟩ = some (.int .i64 e.o.k) ∧ w.cell? ⟨b, o + 4, none⟩ = some (.int .i64 e.o.h) ∧ w.cell? ⟨b, o + 5, none⟩ = some (.int .i64 e.o.v) ∧ w.cell? ⟨b, o + 6, none⟩ = some (.int .i64 e.a.err) ∧ w.cell? ⟨b, o + 7, none⟩ = some (.bool e.a.ok) ∧ w.cell? ⟨b, o + 8, none⟩ = some (.int .i64 e.a.k) ∧ w.cell? ⟨b, o + 9, none⟩ = some (.int .i64 e.a.v) ∧ w.cell? ⟨b, o + 10, none⟩ = some (.int .i64 e.a.n) ∧ w.cell? ⟨b, o + 11, none⟩ = some (.slice pa e.a.ps.length pc) :=
  ⟨h.at_ 0 _ rfl, h.at_ 1 _ rfl, h.at_ 2 _ rfl, h.at_ 3 _ rfl, h.at_ 4 _ rfl, h.at_ 5 _ rfl, h.at_ 6 _ rfl, h.at_ 7 _ rfl, h.at_ 8 _ rfl, h.at_ 9 _ rfl, h.at_ 10 _ rfl, h.at_ 11 _ rfl⟩
theorem CA.ex {w : World} {b o : Nat} {pa : Option Addr} {pc : Nat} {m : ClD} (h : CA w b o pa pc m) :
    w.cell? ⟨b, o, none⟩ = some (.int .i64 m.t) ∧ w.cell? ⟨b, o + 1, none⟩ = some (.int .i64 m.f) ∧ w.cell? ⟨b, o + 2, none⟩ = some (.int .i64 m.g) ∧ w.cell? ⟨b, o + 3, none⟩ = some (.int .i64 m.o.c) ∧ w.cell? ⟨b, o + 4, none⟩ = some (.int .i64 m.o.k) ∧ w.cell? ⟨b, o + 5, none⟩ = some (.int .i64 m.o.h) ∧ w.cell? ⟨b, o + 6, none⟩ = some (.int .i64 m.o.v) ∧ w.cell? ⟨b, o + 7, none⟩ = some (.int .i64 m.a.err) ∧ w.cell? ⟨b, o + 8, none⟩ = some (.bool m.a.ok) ∧ w.cell? ⟨b, o + 9, none⟩ = some (.int .i64 m.a.k) ∧ w.cell? ⟨b, o + 10, none⟩ = some (.int .i64 m.a.v) ∧ w.cell? ⟨b, o + 11, none⟩ = some (.int .i64 m.a.n) ∧ w.cell? ⟨b, o + 12, none⟩ = some (.slice pa m.a.ps.length pc) :=
  ⟨h.at_ 0 _ rfl, h.at_ 1 _ rfl, h.at_ 2 _ rfl, h.at_ 3 _ rfl, h.at_ 4 _ rfl, h.at_ 5 _ rfl, h.at_ 6 _ rfl, h.at_ 7 _ rfl, h.at_ 8 _ rfl, h.at_ 9 _ rfl, h.at_ 10 _ rfl, h.at_ 11 _ rfl, h.at_ 12 _ rfl⟩

theorem pb1 {w W : World} (h : Below w.heap.size w W) (o : Obj) : Below w.heap.size w (W.alloc o) := h.alloc h.size o
theorem pb2 {w W W' : World} (h : Below w.heap.size w W) (hb : Below W.heap.size W W') : Below w.heap.size w W' := h.trans (hb.mono h.size)
set_option maxRecDepth 100000 in
set_option maxHeartbeats 6400000 in
theorem ret_any (m : ClD) (pa : Option Addr) (pc : Nat) (w : World) (B : Bool) (hB : decide (0 ≤ m.g) = B) : Calls Try.prog 59 #[clV m pa pc] w fun e w' => e = .returned (.bool B) ∧ Below w.heap.size w w' := by
  obtain ⟨t, f, g, ⟨oc, ok, oh, ov⟩, ⟨ae, ao, ak, av, an, ap⟩⟩ := m
  unfold clV
  dsimp only at hB ⊢
  have HB := Lib.hid hB
  clear hB
  go_enter Try.func59, Try.ntmps59
  go_wp2_with (fail)
  go_ret
  exact ⟨by rw [← HB.out]; rfl, pal _⟩

set_option maxRecDepth 100000 in
set_option maxHeartbeats 6400000 in
theorem bef_any (m n : ClD) (pa qa : Option Addr) (pc qc : Nat) (w : World) (B : Bool) (hB : decide (bef m n) = B) : Calls Try.prog 49 #[clV m pa pc, clV n qa qc] w fun e w' => e = .returned (.bool B) ∧ Below w.heap.size w w' := by
  unfold bef at hB
  have cr := ret_any m pa pc
  obtain ⟨t, f, g, ⟨oc, ok, oh, ov⟩, ⟨ae, ao, ak, av, an, ap⟩⟩ := m
  obtain ⟨t', f', g', ⟨oc', ok', oh', ov'⟩, ⟨ae', ao', ak', av', an', ap'⟩⟩ := n
  unfold clV at cr ⊢
  dsimp only at hB cr ⊢
  have ba : Below w.heap.size w ((w.alloc (.cells #[.int .i64 t, .int .i64 f, .int .i64 g, .int .i64 oc, .int .i64 ok, .int .i64 oh, .int .i64 ov, .int .i64 ae, .bool ao, .int .i64 ak, .int .i64 av, .int .i64 an, .slice pa ap.length pc] 71)).alloc (.cells #[.int .i64 t', .int .i64 f', .int .i64 g', .int .i64 oc', .int .i64 ok', .int .i64 oh', .int .i64 ov', .int .i64 ae', .bool ao', .int .i64 ak', .int .i64 av', .int .i64 an', .slice qa ap'.length qc] 71)) := pb1 (pal _) _
  have HB := Lib.hid ba
  have HE := Lib.hid hB
  have B1 := Lib.hid (Bq.past (Bq.new w #[.int .i64 t, .int .i64 f, .int .i64 g, .int .i64 oc, .int .i64 ok, .int .i64 oh, .int .i64 ov, .int .i64 ae, .bool ao, .int .i64 ak, .int .i64 av, .int .i64 an, .slice pa ap.length pc] 71) (.cells #[.int .i64 t', .int .i64 f', .int .i64 g', .int .i64 oc', .int .i64 ok', .int .i64 oh', .int .i64 ov', .int .i64 ae', .bool ao', .int .i64 ak', .int .i64 av', .int .i64 an', .slice qa ap'.length qc] 71))
  have B2 := Lib.hid (show Bq ((w.alloc (.cells #[.int .i64 t, .int .i64 f, .int .i64 g, .int .i64 oc, .int .i64 ok, .int .i64 oh, .int .i64 ov, .int .i64 ae, .bool ao, .int .i64 ak, .int .i64 av, .int .i64 an, .slice pa ap.length pc] 71)).alloc (.cells #[.int .i64 t', .int .i64 f', .int .i64 g', .int .i64 oc', .int .i64 ok', .int .i64 oh', .int .i64 ov', .int .i64 ae', .bool ao', .int .i64 ak', .int .i64 av', .int .i64 an', .slice qa ap'.length qc] 71)) (w.heap.size + 1) _ from by
    have h := Bq.new (w.alloc (.cells #[.int .i64 t, .int .i64 f, .int .i64 g, .int .i64 oc, .int .i64 ok, .int .i64 oh, .int .i64 ov, .int .i64 ae, .bool ao, .int .i64 ak, .int .i64 av, .int .i64 an, .slice pa ap.length pc] 71)) #[.int .i64 t', .int .i64 f', .int .i64 g', .int .i64 oc', .int .i64 ok', .int .i64 oh', .int .i64 ov', .int .i64 ae', .bool ao', .int .i64 ak', .int .i64 av', .int .i64 an', .slice qa ap'.length qc] 71
    simp only [World.size_alloc] at h; exact h)
  clear ba hB
  by_cases h1 : 0 ≤ g
  · have cr1 := fun W => cr W true (decide_eq_true h1)
    have HH := Lib.hid h1
    clear cr h1
    go_enter Try.func49, Try.ntmps49
    go_wp2_with (go_at_call 59; ((with_reducible refine (cr1 _).mono ?_); clear cr1; rintro e w3 ⟨rfl, hb3⟩; have g2 := (B1.out.keep hb3).at_ 2 _ rfl; have g1 := (B2.out.keep hb3).at_ 1 _ rfl; have HB3 := Lib.hid (pb2 HB.out hb3); clear hb3))
    go_ret
    exact ⟨by rw [← HE.out]; simp [HH.out], HB3.out⟩
  · have cr1 := fun W => cr W false (decide_eq_false h1)
    have HH := Lib.hid h1
    clear cr h1
    go_enter Try.func49, Try.ntmps49
    go_wp2_with (go_at_call 59; ((with_reducible refine (cr1 _).mono ?_); clear cr1; rintro e w3 ⟨rfl, hb3⟩; have HB3 := Lib.hid (pb2 HB.out hb3); clear hb3))
    go_ret
    refine ⟨?_, HB3.out⟩
    have e : B = false := by rw [← HE.out]; exact decide_eq_false (fun x => by have := HH.out; omega)
    rw [e]; rfl
theorem adEq_z (d : Ad) : AdEq d zAd ↔ d = zAd := by
  obtain ⟨a, b, c, d', e, f⟩ := d
  unfold AdEq zAd
  simp only [Ad.mk.injEq]
  constructor
  · rintro ⟨rfl, rfl, ⟨rfl, rfl⟩, rfl, rfl⟩; exact ⟨rfl, rfl, rfl, rfl, rfl, rfl⟩
  · rintro ⟨rfl, rfl, rfl, rfl, rfl, rfl⟩; exact ⟨rfl, rfl, ⟨rfl, rfl⟩, rfl, rfl⟩

set_option maxRecDepth 100000 in
set_option maxHeartbeats 6400000 in
theorem beg_any (m : EvD) (pa : Option Addr) (pc : Nat) (w : World) (h : Prs w pa pc m.a.ps) (B : Bool) (hB : decide (okOp m.o.c ∧ m.a = zAd) = B) : Calls Try.prog 47 #[evV m pa pc] w fun e w' => e = .returned (.bool B) ∧ Below w.heap.size w w' := by
  have cm := lmayop_any m.o.c m.o.k m.o.h m.o.v
  have cs := fun W (k : Prs W pa pc m.a.ps) => lsame_ans m.a zAd pa none pc 0 W k (Prs.nil W) (decide (m.a = zAd)) (by rw [decide_eq_decide]; exact adEq_z _)
  obtain ⟨t, r, ⟨oc, ok, oh, ov⟩, A⟩ := m
  have hA : ∃ b : Bool, decide (A = zAd) = b := ⟨_, rfl⟩
  obtain ⟨zb, hzb⟩ := hA
  dsimp only at cs hB
  rw [hzb] at cs
  obtain ⟨ae, ao, ak, av, an, ap⟩ := A
  unfold evV
  unfold Ad.val zAd at cs
  dsimp only [List.length_nil] at hB h cm cs ⊢
  have ba : Below w.heap.size w (w.alloc (.cells #[.int .i64 t, .bool r, .int .i64 oc, .int .i64 ok, .int .i64 oh, .int .i64 ov, .int .i64 ae, .bool ao, .int .i64 ak, .int .i64 av, .int .i64 an, .slice pa ap.length pc] 36)) := pal _
  have HB := Lib.hid ba
  have HP := Lib.hid (h.below ba)
  have HE := Lib.hid hB
  have HZ := Lib.hid hzb
  have B1 := Lib.hid (Bq.new w #[.int .i64 t, .bool r, .int .i64 oc, .int .i64 ok, .int .i64 oh, .int .i64 ov, .int .i64 ae, .bool ao, .int .i64 ak, .int .i64 av, .int .i64 an, .slice pa ap.length pc] 36)
  clear ba hB h hzb
  by_cases h1 : okOp oc
  · have cr1 := fun W => cm W true (decide_eq_true h1)
    have HH := Lib.hid h1
    clear cm h1
    go_enter Try.func47, Try.ntmps47
    go_wp2_with (first
      | (go_at_call 56; ((with_reducible refine (cr1 _).mono ?_); clear cr1; rintro e w3 ⟨rfl, hb3⟩; have B3 := Lib.hid (B1.out.keep hb3); have HB3 := Lib.hid (pb2 HB.out hb3); have HP3 := Lib.hid (HP.out.below hb3); have g6 := B3.out.at_ 6 _ rfl; have g7 := B3.out.at_ 7 _ rfl; have g8 := B3.out.at_ 8 _ rfl; have g9 := B3.out.at_ 9 _ rfl; have g10 := B3.out.at_ 10 _ rfl; have g11 := B3.out.at_ 11 _ rfl; clear hb3))
      | (go_at_call 36; ((with_reducible refine (cs _ HP3.out).mono ?_); clear cs; rintro e w4 ⟨rfl, hb4⟩; have HB4 := Lib.hid (pb2 HB3.out hb4); clear hb4)))
    go_ret
    exact ⟨by rw [← HE.out, ← HZ.out]; simp [HH.out], HB4.out⟩
  · have cr1 := fun W => cm W false (decide_eq_false h1)
    have HH := Lib.hid h1
    clear cm h1 cs
    go_enter Try.func47, Try.ntmps47
    go_wp2_with (go_at_call 56; ((with_reducible refine (cr1 _).mono ?_); clear cr1; rintro e w3 ⟨rfl, hb3⟩; have HB3 := Lib.hid (pb2 HB.out hb3); clear hb3))
    go_ret
    exact ⟨by rw [← HE.out]; simp [HH.out], HB3.out⟩

/-- So many pairs in the first n events. -/
def esum (N : List EvD) (n : Nat) : Nat := ((N.take n).map (fun z => z.a.ps.length)).sum
theorem esum_succ {N : List EvD} {n : Nat} {x : EvD} (hx : N[n]? = some x) : esum N (n + 1) = esum N n + x.a.ps.length := by
  unfold esum
  rw [List.take_add_one, hx]
  simp
theorem esum_le {N : List EvD} (hm : MidE N) : ∀ n, esum N n ≤ n * 8796093022208 := by
  intro n
  induction n with
  | zero => simp [esum]
  | succ n ih =>
    rcases Nat.lt_or_ge n N.length with h | h
    · obtain ⟨x, hx⟩ : ∃ x, N[n]? = some x := ⟨_, List.getElem?_eq_getElem h⟩
      rw [esum_succ hx]
      have := hm x (List.mem_of_getElem? hx)
      omega
    · have : esum N (n + 1) = esum N n := by unfold esum; rw [List.take_of_length_le (by omega), List.take_of_length_le h]
      omega
theorem esum_mem {f : EvD → Nat} : ∀ {N : List EvD} {x : EvD}, x ∈ N → f x ≤ (N.map f).sum := by
  intro N
  induction N with
  | nil => intro x h; cases h
  | cons y l ih =>
    intro x h
    rw [List.map_cons, List.sum_cons]
    rcases List.mem_cons.1 h with rfl | h
    · omega
    · have := ih h; omega
/-- Few events, few pairs. -/
def LgtE (N : List EvD) : Prop := N.length ≤ 200 ∧ esum N N.length ≤ 3000
instance (N : List EvD) : Decidable (LgtE N) := by unfold LgtE; infer_instance
theorem LgtE.ps {N : List EvD} (h : LgtE N) : ∀ e ∈ N, e.a.ps.length ≤ 3000 := fun n hn => by
  have h1 := esum_mem (f := fun z => z.a.ps.length) hn
  have h2 := h.2
  unfold esum at h2
  rw [List.take_length] at h2
  omega
theorem esum_w {N : List EvD} (hm : MidE N) {n : Nat} (hn : n ≤ 200) {x : EvD} (hx : N[n]? = some x) : wrap64 ((esum N n : Int) + (x.a.ps.length : Int)) = ((esum N (n + 1) : Nat) : Int) := by
  rw [esum_succ hx]
  have h1 := Nat.le_trans (esum_le hm n) (Nat.mul_le_mul_right _ hn)
  have h2 := hm x (List.mem_of_getElem? hx)
  unfold wrap64; omega
set_option maxRecDepth 100000 in
set_option maxHeartbeats 6400000 in
theorem light_yesE (a : Option Addr) (cap : Nat) (N : List EvD) (w : World) (hN : Es w a cap N) (hm : MidE N) (hl : N.length ≤ 200) (L : Int) (hL : L = if esum N N.length ≤ 3000 then 0 else 1) :
    Calls Try.prog 15 #[.slice a N.length cap] w fun e w' => e = .returned (.int .i64 L) ∧ Below w.heap.size w w' := by
  have HN := Lib.hid hN
  have HM := Lib.hid hm
  have HL := Lib.hid hL
  clear hN hm hL
  go_enter Try.func15, Try.ntmps15
  go_wp2_with (fail)
  go_loopw [8, 3] (fun i x wr => ∃ n : Nat, n ≤ N.length ∧ i = .int .i64 n ∧ x = .int .i64 (esum N n : Nat) ∧ Below w.heap.size w wr) (fun i _ _ => N.length - (intOf i).toNat)
  case atStart => exact ⟨0, Nat.zero_le _, rfl, rfl, Below.refl _ _⟩
  case round =>
    obtain ⟨n, hn, rfl, rfl, hb⟩ := hrel
    have HBR := Lib.hid hb
    by_cases hlt : n < N.length
    · obtain ⟨x, hx⟩ : ∃ x, N[n]? = some x := ⟨_, List.getElem?_eq_getElem hlt⟩
      obtain ⟨b, o, pa, pc, rfl, hx1⟩ := (HN.out.keep hb).2.2 n x hx
      have hn0 : (0 : Int) ≤ (n : Int) := by omega
      have hnl : (n : Int) < (N.length : Int) := by omega
      have hw := esum_w HM.out (Nat.le_trans hn hl) hx
      obtain ⟨e0, e1, e2, e3, e4, e5, e6, e7, e8, e9, e10, e11⟩ := hx1.ex
      obtain ⟨t, r, ⟨oc, ok, oh, ov⟩, ⟨ae, ao, ak, av, an, ap⟩⟩ := x
      dsimp only at e0 e1 e2 e3 e4 e5 e6 e7 e8 e9 e10 e11 hw
      clear hx hb hx1
      go_wp2_with (fail)
      go_roundw
      case rel => exact ⟨n + 1, by omega, by go_num, by rw [hw], pb2 HBR.out (pal _)⟩
      case measure => simp [intOf]; omega
    · obtain rfl : n = N.length := by omega
      by_cases hs : (3000 : Int) < ((esum N N.length : Nat) : Int)
      · have hL : L = 1 := by rw [HL.out, if_neg (by omega)]
        subst hL
        generalize esum N N.length = S1 at *
        go_wp2_with (fail)
        go_ret
        exact ⟨rfl, HBR.out⟩
      · have hL : L = 0 := by rw [HL.out, if_pos (by omega)]
        subst hL
        generalize esum N N.length = S1 at *
        go_wp2_with (fail)
        go_ret
        exact ⟨rfl, HBR.out⟩
set_option maxRecDepth 100000 in
set_option maxHeartbeats 6400000 in
theorem light_bigE (a : Option Addr) (cap : Nat) (N : List EvD) (w : World) (hN : Es w a cap N) (hl : ¬ N.length ≤ 200) :
    Calls Try.prog 15 #[.slice a N.length cap] w fun e w' => e = .returned (.int .i64 1) ∧ Below w.heap.size w w' := by
  have HN := Lib.hid hN
  have hc1 := hN.1
  have hc2 := hN.2.1
  unfold maxLen at hc2
  have hbig : (200 : Int) < (N.length : Int) := by omega
  clear hN hl
  go_enter Try.func15, Try.ntmps15
  go_wp2_with (fail)
  go_loopw [8, 3] (fun i x wr => ∃ (n : Nat) (v : Int), n ≤ N.length ∧ i = .int .i64 n ∧ x = .int .i64 v ∧ Below w.heap.size w wr) (fun i _ _ => N.length - (intOf i).toNat)
  case atStart => exact ⟨0, 0, Nat.zero_le _, rfl, rfl, Below.refl _ _⟩
  case round =>
    obtain ⟨n, v, hn, rfl, rfl, hb⟩ := hrel
    have HBR := Lib.hid hb
    by_cases hlt : n < N.length
    · obtain ⟨x, hx⟩ : ∃ x, N[n]? = some x := ⟨_, List.getElem?_eq_getElem hlt⟩
      obtain ⟨b, o, pa, pc, rfl, hx1⟩ := (HN.out.keep hb).2.2 n x hx
      have hn0 : (0 : Int) ≤ (n : Int) := by omega
      have hnl : (n : Int) < (N.length : Int) := by omega
      obtain ⟨e0, e1, e2, e3, e4, e5, e6, e7, e8, e9, e10, e11⟩ := hx1.ex
      obtain ⟨t, r, ⟨oc, ok, oh, ov⟩, ⟨ae, ao, ak, av, an, ap⟩⟩ := x
      dsimp only at e0 e1 e2 e3 e4 e5 e6 e7 e8 e9 e10 e11
      clear hx hb hx1
      go_wp2_with (fail)
      go_roundw
      case rel => exact ⟨n + 1, _, by omega, by go_num, rfl, pb2 HBR.out (pal _)⟩
      case measure => simp [intOf]; omega
    · obtain rfl : n = N.length := by omega
      go_wp2_with (fail)
      go_ret
      exact ⟨rfl, HBR.out⟩
theorem light_anyE (a : Option Addr) (cap : Nat) (N : List EvD) (w : World) (hN : Es w a cap N) (hm : MidE N) (L : Int) (h1 : LgtE N → L = 0) (h2 : ¬ LgtE N → L = 1) :
    Calls Try.prog 15 #[.slice a N.length cap] w fun e w' => e = .returned (.int .i64 L) ∧ Below w.heap.size w w' := by
  by_cases hl : N.length ≤ 200
  · refine light_yesE a cap N w hN hm hl L ?_
    split
    · exact h1 ⟨hl, by assumption⟩
    · exact h2 (fun h => absurd h.2 (by assumption))
  · obtain rfl := h2 (fun h => hl h.1)
    exact light_bigE a cap N w hN hl
end Go.Proofs.Ytadfnbmogobopaa
