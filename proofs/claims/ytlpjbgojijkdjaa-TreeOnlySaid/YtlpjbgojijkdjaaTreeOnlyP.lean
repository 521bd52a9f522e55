/- osierlaw14.TreeOnly answers true for every tree, pair and number: of a tree that may be and can be gone through each pair is in the leaf that Find tells, and a pair more may be put by Set into the leaf that Find tells for its key and into no other one; a tree that may not be is not the same as itself. -/
import Derived.Test.YtlpjbgojijkdjaaRows
import Derived.Test.YtlpjbgojijkdjaaTsF
import Derived.Test.YtlpjbgojijkdjaaTsK
import Derived.Test.YtlpjbgojijkdjaaTrY
import Derived.OwnWalk
import Derived.LoopTactic
import Derived.WalkKit
import Derived.ProofKit
import Derived.OpenShut
import Derived.ChangeOld
import Derived.Below
namespace Go.Proofs.Ytlpjbgojijkdjaa.treeOnly
open Go.ChangeShapes Go.WideShapes Go.ChangeAt Go.RowKit
set_option linter.all false

theorem own : ownKnob Try.prog.godebug = none := by kernel_rfl
theorem laidOut : laidOutB Try.prog = true := by kernel_rfl

theorem wrapU64 (a : Int) : IntKind.u64.wrap a = a % 18446744073709551616 := by first | rfl | simp [IntKind.wrap]
/-- int(uint64(a) % uint64(d)). -/
theorem umod (a d : Int) (h : 0 < d) (h2 : d ≤ 9223372036854775807) : ∃ m : Nat, (m : Int) < d ∧ wrap64 ((IntKind.u64.wrap a).tmod d) = m := by
  have h0 : 0 ≤ a % 18446744073709551616 := Int.emod_nonneg _ (by decide)
  have h1 := Int.emod_nonneg (a % 18446744073709551616) (show d ≠ 0 by omega)
  have h3 := Int.emod_lt_of_pos (a % 18446744073709551616) h
  refine ⟨((a % 18446744073709551616) % d).toNat, by omega, ?_⟩
  rw [wrapU64, Int.tmod_eq_emod_of_nonneg h0]
  unfold wrap64
  omega
theorem w_k {k : Nat} (h : k ≤ 2100) : wrap64 ((k : Int) + 1) = ((k + 1 : Nat) : Int) := by unfold wrap64; omega
theorem w_me {k n : Nat} (h : k < n) (hn : n ≤ 2100) : n - (intOf (.int .i64 (wrap64 ((k : Int) + 1)))).toNat < n - (intOf (.int .i64 (k : Int))).toNat := by
  rw [w_k (by omega)]
  show n - ((k + 1 : Nat) : Int).toNat < n - ((k : Int)).toNat
  rw [Int.toNat_natCast, Int.toNat_natCast]
  omega
/-- What holds all along. -/
structure T2 (w : World) (t : Int) (a : Option Addr) (cap : Nat) (N : List Nd) (k v : Int) (W : World) : Prop where
  g : Bk W w.heap.size [.int .i64 t, .slice a N.length cap]
  p : Bk W (w.heap.size + 1) [.int .i64 k, .int .i64 v]
  b : Below w.heap.size w W
theorem T2.keep {w : World} {t : Int} {a : Option Addr} {cap : Nat} {N : List Nd} {k v : Int} {W W' : World} (h : T2 w t a cap N k v W) (hb : Below W.heap.size W W') : T2 w t a cap N k v W' := ⟨h.g.keep hb, h.p.keep hb, bel2 h.b hb⟩
theorem T2.new (w : World) (t : Int) (a : Option Addr) (cap : Nat) (N : List Nd) (k v : Int) : T2 w t a cap N k v ((w.alloc (.cells #[.int .i64 t, .slice a N.length cap] 24)).alloc (.cells #[.int .i64 k, .int .i64 v] 48)) :=
  ⟨Bk.past (Bk.new w #[.int .i64 t, .slice a N.length cap] 24) _, by
    have h := Bk.new (w.alloc (.cells #[.int .i64 t, .slice a N.length cap] 24)) #[.int .i64 k, .int .i64 v] 48
    simp only [World.size_alloc] at h; exact h, bel1 (al1 _) _⟩
/-- What is kept to the end. -/
structure Z9 (w : World) (t : Int) (a : Option Addr) (cap : Nat) (N : List Nd) (k v : Int) (qf d : Nat) (fu fd : Value) (W : World) : Prop where
  a : T2 w t a cap N k v W
  f : Bk W qf [.int .i64 (d : Int), fu, fd]
theorem Z9.keep {w : World} {t : Int} {a : Option Addr} {cap : Nat} {N : List Nd} {k v : Int} {qf d : Nat} {fu fd : Value} {W W' : World} (h : Z9 w t a cap N k v qf d fu fd W) (hb : Below W.heap.size W W') : Z9 w t a cap N k v qf d fu fd W' := ⟨h.a.keep hb, h.f.keep hb⟩
theorem Z9.conj {w : World} {t : Int} {a : Option Addr} {cap : Nat} {N : List Nd} {k v : Int} {qf d : Nat} {fu fd : Value} {b y : Nat} {u : Value} (he : w.cell? ⟨b, y, none⟩ = some u) {W : World} (h : Z9 w t a cap N k v qf d fu fd W) :
    W.cell? ⟨w.heap.size, 0, none⟩ = some (.int .i64 t) ∧ W.cell? ⟨w.heap.size, 1, none⟩ = some (.slice a N.length cap) ∧ W.cell? ⟨w.heap.size + 1, 0, none⟩ = some (.int .i64 k) ∧ W.cell? ⟨w.heap.size + 1, 1, none⟩ = some (.int .i64 v) ∧ W.cell? ⟨b, y, none⟩ = some u ∧ Z9 w t a cap N k v qf d fu fd W :=
  ⟨h.a.g.at_ 0 _ rfl, h.a.g.at_ 1 _ rfl, h.a.p.at_ 0 _ rfl, h.a.p.at_ 1 _ rfl, kc h.a.b he, h⟩
theorem Z9.two {w : World} {t : Int} {a : Option Addr} {cap : Nat} {N : List Nd} {k v : Int} {qf d : Nat} {fu fd : Value} {W : World} (h : Z9 w t a cap N k v qf d fu fd W) {q : Nat} (h1 : w.heap.size + 1 < q) (h2 : qf ≠ q) (x y : Value) : Z9 w t a cap N k v qf d fu fd ((W.setCell ⟨q, 0, none⟩ x).setCell ⟨q, 1, none⟩ y) := by
  have hO : Only (fun j => j = q) W ((W.setCell ⟨q, 0, none⟩ x).setCell ⟨q, 1, none⟩ y) := ((Only.refl _ W).setCell (S := fun j => j = q) (p := ⟨q, 0, none⟩) (.inl rfl) _).setCell (S := fun j => j = q) (p := ⟨q, 1, none⟩) (.inl rfl) _
  exact ⟨⟨h.a.g.only hO (fun e => by have : w.heap.size = q := e; omega), h.a.p.only hO (fun e => by have : w.heap.size + 1 = q := e; omega), h.a.b.trans (hO.below (B := w.heap.size) (fun j hj => by have : j = q := hj; omega) h.a.b.size)⟩, h.f.only hO (fun e => h2 e)⟩
set_option maxRecDepth 100000 in
set_option maxHeartbeats 6400000 in
theorem walk_big (t0 : Int) (a0 : Option Addr) (cap0 : Nat) (N0 : List Nd) (w : World) (w0 : Ns w a0 cap0 N0) (s0 : Mid N0) (k1 v1 a2 : Int) (hL : ¬ Lgt N0) :
    Calls Try.prog 4 #[.agg #[.int .i64 t0, .slice a0 N0.length cap0], .agg #[.int .i64 k1, .int .i64 v1], .int .i64 a2] w fun e w' => e = .returned (.bool true) ∧ Below w.heap.size w w' := by
  have cl := fun W (hb : Below w.heap.size w W) => light_any t0 a0 cap0 N0 W (w0.keep hb) s0 1 (fun h => absurd h hL) (fun _ => rfl)
  have caw := fun W => awake_any W
  have A := Lib.hid (T2.new w t0 a0 cap0 N0 k1 v1)
  unfold trv at cl
  clear w0 s0 hL
  go_enter Try.func4, Try.ntmps4
  go_wp2_with (first
    | (go_at_call 9; ((with_reducible refine (cl _ A.out.b).mono ?_); rintro e W3 ⟨rfl, hb3⟩; replace A := Lib.hid (A.out.keep hb3); clear hb3; (try clear g0 g1); have g0 := A.out.g.at_ 0 _ rfl; have g1 := A.out.g.at_ 1 _ rfl))
    | (go_at_call 10; ((with_reducible refine (caw _).mono ?_); clear caw; rintro e W4 ⟨rfl, hb4⟩; have HB4 := Lib.hid (bel2 A.out.b hb4); clear hb4))
    | fail)
  go_ret
  exact ⟨rfl, HB4.out⟩
set_option maxRecDepth 100000 in
set_option maxHeartbeats 6400000 in
theorem walk_no (t0 : Int) (a0 : Option Addr) (cap0 : Nat) (N0 : List Nd) (w : World) (w0 : Ns w a0 cap0 N0) (s0 : Mid N0) (k1 v1 a2 : Int) (hL : Lgt N0) (hT : ∀ s, ¬ Tr N0 s t0) :
    Calls Try.prog 4 #[.agg #[.int .i64 t0, .slice a0 N0.length cap0], .agg #[.int .i64 k1, .int .i64 v1], .int .i64 a2] w fun e w' => e = .returned (.bool true) ∧ Below w.heap.size w w' := by
  have hs := hL.small
  have hP : PlO N0 t0 false [] := .inr ⟨hT, rfl, rfl⟩
  have cl := fun W (hb : Below w.heap.size w W) => light_any t0 a0 cap0 N0 W (w0.keep hb) s0 0 (fun _ => rfl) (fun h => absurd hL h)
  have cm := fun W (hb : Below w.heap.size w W) => tmay_any t0 a0 cap0 N0 W (w0.keep hb) hs false ⟨fun h => (by cases h), fun ⟨s, hs⟩ => absurd hs (hT s)⟩
  have cst := fun W (hb : Below w.heap.size w W) => rsametree_gen t0 t0 a0 a0 cap0 cap0 N0 N0 W (w0.keep hb) (w0.keep hb) false false [] [] (by simp) (by simp) (rp_any hs hP) (rp_any hs hP) false (by simp)
  have caw := fun W => awake_any W
  have A := Lib.hid (T2.new w t0 a0 cap0 N0 k1 v1)
  unfold trv at cl cm cst
  clear w0 s0 hL hT hs hP
  go_enter Try.func4, Try.ntmps4
  go_wp2_with (first
    | (go_at_call 9; ((with_reducible refine (cl _ A.out.b).mono ?_); rintro e W3 ⟨rfl, hb3⟩; replace A := Lib.hid (A.out.keep hb3); clear hb3; (try clear g0 g1); have g0 := A.out.g.at_ 0 _ rfl; have g1 := A.out.g.at_ 1 _ rfl))
    | (go_at_call 16; ((with_reducible refine (cm _ A.out.b).mono ?_); rintro e W3 ⟨rfl, hb3⟩; replace A := Lib.hid (A.out.keep hb3); clear hb3; (try clear g0 g1); have g0 := A.out.g.at_ 0 _ rfl; have g1 := A.out.g.at_ 1 _ rfl))
    | (go_at_call 18; ((with_reducible refine (cst _ A.out.b).mono ?_); rintro e W3 ⟨rfl, hb3⟩; replace A := Lib.hid (A.out.keep hb3); clear hb3; (try clear g0 g1); have g0 := A.out.g.at_ 0 _ rfl; have g1 := A.out.g.at_ 1 _ rfl))
    | (go_at_call 10; ((with_reducible refine (caw _).mono ?_); clear caw; rintro e W4 ⟨rfl, hb4⟩; have HB4 := Lib.hid (bel2 A.out.b hb4); clear hb4))
    | fail)
  go_ret
  exact ⟨rfl, HB4.out⟩
set_option maxRecDepth 100000 in
set_option maxHeartbeats 12800000 in
theorem walk_yes (t0 : Int) (a0 : Option Addr) (cap0 : Nat) (N0 : List Nd) (w : World) (w0 : Ns w a0 cap0 N0) (s0 : Mid N0) (k1 v1 a2 : Int) (hL : Lgt N0) (s : Sh) (hT : Tr N0 s t0) :
    Calls Try.prog 4 #[.agg #[.int .i64 t0, .slice a0 N0.length cap0], .agg #[.int .i64 k1, .int .i64 v1], .int .i64 a2] w fun e w' => e = .returned (.bool true) ∧ Below w.heap.size w w' := by
  have hs := hL.small
  have hl1 : N0.length ≤ 450 := hL.1
  have hlv : s.lvs.length ≤ 450 := by have := lvs_len s; have := hT.all; omega
  have hpos := lvs_pos s
  obtain ⟨m, hm, hum⟩ := umod a2 (s.lvs.length : Int) (by omega) (by omega)
  have hml : m < s.lvs.length := by omega
  obtain ⟨i, hi⟩ : ∃ i, s.lvs[m]? = some i := ⟨_, List.getElem?_eq_getElem hml⟩
  have him : i ∈ s.lvs := List.mem_of_getElem? hi
  have hil : i < N0.length := hT.hg.lt i (lvs_pre s i him)
  have hdl : (dn N0 k1 s).i < N0.length := hT.hg.lt _ (lvs_pre s _ (dn_lvs N0 k1 s))
  have cl := fun W (hb : Below w.heap.size w W) => light_any t0 a0 cap0 N0 W (w0.keep hb) s0 0 (fun _ => rfl) (fun h => absurd hL h)
  have cm := fun W (hb : Below w.heap.size w W) => tmay_any t0 a0 cap0 N0 W (w0.keep hb) hs true ⟨fun _ => ⟨s, hT⟩, fun _ => rfl⟩
  have cv := fun W (hb : Below w.heap.size w W) => tleaves_yes t0 a0 cap0 N0 W (w0.keep hb) hs s hT
  have cf := fun key W (hb : Below w.heap.size w W) => tfind_yes t0 key a0 cap0 N0 W (w0.keep hb) hs s hT
  have caw := fun W => awake_any W
  have A := Lib.hid (T2.new w t0 a0 cap0 N0 k1 v1)
  have HT := Lib.hid hT
  have HN := Lib.hid w0
  have HS := Lib.hid hs
  have HI := Lib.hid (And.intro hi him)
  have HLI := Lib.hid (show (nd N0 i).p.length ≤ 2000 from by
    have h1 := sum_mem (f := fun z => z.p.length) (List.mem_of_getElem? (nd_get hil))
    have h2 := hL.2
    unfold psum at h2
    rw [List.take_length] at h2
    omega)
  have HI2 : Hid ((preI s.lvs)[m]? = some (i : Int)) := Lib.hid (by unfold preI; rw [List.getElem?_map, hi]; rfl)
  unfold FdIs at cf
  unfold LvIs at cv
  unfold trv at cl cm cv cf
  have hnz : ((s.lvs.length : Int) == 0) = false := by rw [beq_eq_false_iff_ne]; omega
  have hm0 : (0 : Int) ≤ (m : Int) := by omega
  have hi0 : decide ((i : Int) < 0) = false := decide_eq_false (by omega)
  have hi1 : ¬ N0.length ≤ i := by omega
  have hi2 : decide (N0.length ≤ i) = false := decide_eq_false hi1
  have hd1 : ¬ N0.length ≤ (dn N0 k1 s).i := by omega
  clear w0 s0 hL hT hs hi him hpos
  go_enter Try.func4, Try.ntmps4
  go_upto_region 6 with (first
    | (go_at_call 9; ((with_reducible refine (cl _ A.out.b).mono ?_); rintro e W3 ⟨rfl, hb3⟩; replace A := Lib.hid (A.out.keep hb3); clear hb3; (try clear g0 g1); have g0 := A.out.g.at_ 0 _ rfl; have g1 := A.out.g.at_ 1 _ rfl))
    | (go_at_call 16; ((with_reducible refine (cm _ A.out.b).mono ?_); rintro e W3 ⟨rfl, hb3⟩; replace A := Lib.hid (A.out.keep hb3); clear hb3; (try clear g0 g1); have g0 := A.out.g.at_ 0 _ rfl; have g1 := A.out.g.at_ 1 _ rfl))
    | (go_at_call 20; ((with_reducible refine (cv _ A.out.b).mono ?_); rintro e W4 ⟨av, cvv, rfl, hri, hb3⟩; replace A := Lib.hid (A.out.keep hb3); have HV := Lib.hid hri; clear hb3 hri; (try clear g0 g1); have g0 := A.out.g.at_ 0 _ rfl; have g1 := A.out.g.at_ 1 _ rfl))
    | fail)
  obtain ⟨bv, ov, rfl, cv0⟩ := HV.out.2.2 m _ HI2.out
  go_upto_region 7 with (fail)
  clear cv0 hum
  have p0 := A.out.p.at_ 0 _ rfl
  go_upto_region 8 with (go_at_call 27; ((with_reducible refine (cf _ _ A.out.b).mono ?_); rintro e W5 ⟨au, cu, ad, cd, rfl, -, -, hb3⟩; replace A := Lib.hid (A.out.keep (bel1 hb3 (.cells #[.int .i64 ((dn N0 k1 s).i : Int), .slice au (dn N0 k1 s).u.length cu, .slice ad (dn N0 k1 s).u.length cd] 41))); have F := Lib.hid (Bk.new W5 #[.int .i64 ((dn N0 k1 s).i : Int), .slice au (dn N0 k1 s).u.length cu, .slice ad (dn N0 k1 s).u.length cd] 41); have HV5 := Lib.hid (HV.out.below (bel1 hb3 (.cells #[.int .i64 ((dn N0 k1 s).i : Int), .slice au (dn N0 k1 s).u.length cu, .slice ad (dn N0 k1 s).u.length cd] 41))); clear hb3 g0 g1 p0 HV))
  obtain ⟨qf, hqf⟩ : ∃ q, W5.heap.size = q := ⟨_, rfl⟩
  rw [hqf] at F ⊢
  clear hqf
  generalize (World.alloc W5 _ : World) = W6 at *
  have g0 := A.out.g.at_ 0 _ rfl
  have g1 := A.out.g.at_ 1 _ rfl
  have f0 := F.out.at_ 0 _ rfl
  go_upto_region 10 with (fail)
  go_wp2_with (fail)
  clear g0 g1 f0 hi0 hi2 hd1
  go_loopw [88] (fun i wr => ∃ n : Nat, n ≤ s.lvs.length ∧ i = .int .i64 n ∧ Below W6.heap.size W6 wr) (fun i _ => s.lvs.length - (intOf i).toNat)
  case atStart => exact ⟨0, Nat.zero_le _, rfl, Below.refl _ _⟩
  case round =>
    obtain ⟨n, hn, rfl, hb⟩ := hrel
    have A7 := Lib.hid (A.out.keep hb)
    have HBR := Lib.hid hb
    clear hb
    by_cases hlt : n < s.lvs.length
    · obtain ⟨j, hj⟩ : ∃ j, s.lvs[n]? = some j := ⟨_, List.getElem?_eq_getElem hlt⟩
      have hjm : j ∈ s.lvs := List.mem_of_getElem? hj
      have hjl : j < N0.length := HT.out.hg.lt j (lvs_pre s j hjm)
      have HJ := Lib.hid hjm
      obtain ⟨_, _, e', cj⟩ := (HV5.out.below HBR.out).2.2 n (j : Int) (by unfold preI; rw [List.getElem?_map, hj]; rfl)
      cases e'
      have hx := nd_get hjl
      obtain ⟨b, o, pa, pc, rfl, hx1⟩ := (HN.out.keep A7.out.b).2.2 j _ hx
      have e4 := hx1.c4
      have HP := Lib.hid hx1.ps
      have HPL := Lib.hid (HS.out.at hx)
      have hn0 : (0 : Int) ≤ (n : Int) := by omega
      have hnl : (n : Int) < (s.lvs.length : Int) := by omega
      have hj0 : (0 : Int) ≤ (j : Int) := by omega
      have hjl' : (j : Int) < (N0.length : Int) := by omega
      have hj1 : decide ((j : Int) < 0) = false := decide_eq_false (by omega)
      have hj2 : decide (N0.length ≤ j) = false := decide_eq_false (by omega)
      have hj3 : ¬ N0.length ≤ j := by omega
      have g0 := A7.out.g.at_ 0 _ rfl
      have g1 := A7.out.g.at_ 1 _ rfl
      have hown := Lib.hid (fun q (hq : q ∈ (nd N0 j).p) => dn_own HT.out hjm hq)
      generalize (nd N0 j).p = p at *
      clear hj hjm hx hx1 hjl
      go_wp2_with (fail)
      clear g0 g1 cj e4
      go_loopw [108] (fun i wq => ∃ k : Nat, k ≤ p.length ∧ i = .int .i64 k ∧ Below wr.heap.size wr wq) (fun i _ => p.length - (intOf i).toNat)
      case atStart => exact ⟨0, Nat.zero_le _, rfl, Below.refl _ _⟩
      case round =>
        obtain ⟨k, hk, rfl, hb⟩ := hrel
        have A8 := Lib.hid (A7.out.keep hb)
        have HBQ := Lib.hid hb
        clear hb
        by_cases hlk : k < p.length
        · obtain ⟨⟨x0, x1⟩, hq⟩ : ∃ q, p[k]? = some q := ⟨_, List.getElem?_eq_getElem hlk⟩
          have hd := hown.out (x0, x1) (List.mem_of_getElem? hq)
          dsimp only at hd
          obtain ⟨bp, op, rfl, c0, c1⟩ := (HP.out.below HBQ.out).2.2.1 k _ hq
          dsimp only at c0 c1
          have cf' := cf x0
          rw [hd] at cf'
          have A9 := Lib.hid (A8.out.keep (al1 (.cells #[.int .i64 x0, .int .i64 x1] 48)))
          have B9 := Lib.hid (bel1 HBQ.out (.cells #[.int .i64 x0, .int .i64 x1] 48))
          have g0 := A9.out.g.at_ 0 _ rfl
          have g1 := A9.out.g.at_ 1 _ rfl
          have hk0 : (0 : Int) ≤ (k : Int) := by omega
          have hkl : (k : Int) < (p.length : Int) := by omega
          have HWK := Lib.hid (w_k (Nat.le_trans (Nat.le_of_lt hlk) HPL.out))
          clear hq hd
          go_wp2_with (go_at_call 27; ((with_reducible refine (cf' _ A9.out.b).mono ?_); clear cf'; rintro e W9 ⟨au', cu', ad', cd', rfl, -, -, hb3⟩; have HB9 := Lib.hid (bel1 (bel2 B9.out hb3) (.cells #[.int .i64 (j : Int), .slice au' (dn N0 x0 s).u.length cu', .slice ad' (dn N0 x0 s).u.length cd'] 41)); clear hb3 g0 g1))
          go_roundw
          case rel => exact ⟨k + 1, by omega, by rw [HWK.out], HB9.out⟩
          case measure => exact w_me hlk HPL.out
        · obtain rfl : k = p.length := by omega
          go_wp2_with (fail)
          go_roundw
          case rel => exact ⟨n + 1, by omega, by go_num, bel2 HBR.out HBQ.out⟩
          case measure => simp [intOf]; omega
    · obtain rfl : n = s.lvs.length := by omega
      go_upto_region 23 with (fail)
      have HZ := Lib.hid (show Z9 w t0 a0 cap0 N0 k1 v1 qf (dn N0 k1 s).i (.slice au (dn N0 k1 s).u.length cu) (.slice ad (dn N0 k1 s).u.length cd) wr from ⟨A7.out, F.out.keep HBR.out⟩)
      obtain ⟨x, hx⟩ : ∃ x, ((i : Int) == ((dn N0 k1 s).i : Int)) = x := ⟨_, rfl⟩
      obtain ⟨r, Q, hSet⟩ := setO_with HT.out HI.out.2 k1 v1 x hx
      obtain ⟨b, o, pa, pc, rfl, hxi⟩ := HN.out.2.2 i _ (nd_get hil)
      have HE := Lib.hid hxi.c4
      have hpi := hxi.ps
      have hpl := HLI.out
      generalize (nd N0 i).p = p at *
      have HX := Lib.hid hx
      have cw := fun W (hb : Below w.heap.size w W) => with_big pa pc p k1 v1 W (hpi.below hb) (by omega)
      unfold WithIs at cw
      have HPK := Lib.hid (show p.length + 1 ≤ 2100 by omega)
      have cs := fun W (aw : Option Addr) (cpw : Nat) (hb : Below w.heap.size w W) (hp : Prs W aw cpw (withL p k1 v1)) (hwl : (withL p k1 v1).length ≤ 2100) => tset_any t0 (some ⟨b, o, none⟩) cap0 N0 (i : Int) aw cpw (withL p k1 v1) 0 W (HN.out.keep hb) HS.out hp hwl r Q x hSet
      unfold SetIs trv at cs
      generalize withL p k1 v1 = L at *
      have hi0' : (0 : Int) ≤ (i : Int) := by omega
      have hil' : (i : Int) < (N0.length : Int) := by omega
      generalize (dn N0 k1 s).i = d at *
      generalize Value.slice au (dn N0 k1 s).u.length cu = fu at *
      generalize Value.slice ad (dn N0 k1 s).u.length cd = fd at *
      clear hx hSet hxi hpi hpl cl cm cv cf HV5 HI2 hm hml hlv hl1 hn
      obtain ⟨CW0, hCW0⟩ : ∃ W : World, W = wr.drew := ⟨_, rfl⟩
      have HZ0 := Lib.hid (HZ.out.keep (Below.refl _ _).drew)
      go_cut [16, 17] from 129 to 142 (fun u y wx => y = .bool x ∧ Z9 w t0 (some ⟨b, o, none⟩) cap0 N0 k1 v1 qf d fu fd wx)
      case first =>
        refine wp_region_held_drew (S := (fun W => W.cell? ⟨w.heap.size, 0, none⟩ = some (.int .i64 t0) ∧ W.cell? ⟨w.heap.size, 1, none⟩ = some (.slice (some ⟨b, o, none⟩) N0.length cap0) ∧ W.cell? ⟨w.heap.size + 1, 0, none⟩ = some (.int .i64 k1) ∧ W.cell? ⟨w.heap.size + 1, 1, none⟩ = some (.int .i64 v1) ∧ W.cell? ⟨b, o + i * 6 + 4, none⟩ = some (.slice pa p.length pc) ∧ Z9 w t0 (some ⟨b, o, none⟩) cap0 N0 k1 v1 qf d fu fd W)) (by kernel_rfl) (by first | exact Z9.conj HE.out HZ0.out | exact Z9.conj HE.out (HZ0.out.keep (Below.refl _ _).drew)) (fun hHeld => ?_)
        refine wpAnyH_take (i := 0) (v := ?_) rfl (by kernel_rfl) (by kernel_rfl) (by kernel_rfl) (fun _ _ _ h => h) (Or.inl ⟨by rfl, ?_⟩) hHeld ?_
        rotate_left
        · (intro wS hSw; (try dsimp only at hSw); (try go_split_ands); go_simp; try with_reducible rfl)
        try simp only [List.getElem_toArray, List.getElem_cons_succ, List.getElem_cons_zero, Act.put, List.setIfInBounds_toArray, List.set_cons_zero, List.set_cons_succ]
        refine wpAnyH_take (i := 1) (v := ?_) rfl (by kernel_rfl) (by kernel_rfl) (by kernel_rfl) (fun _ _ _ h => h) (Or.inl ⟨by rfl, ?_⟩) hHeld ?_
        rotate_left
        · (intro wS hSw; (try dsimp only at hSw); (try go_split_ands); go_simp; try with_reducible rfl)
        try simp only [List.getElem_toArray, List.getElem_cons_succ, List.getElem_cons_zero, Act.put, List.setIfInBounds_toArray, List.set_cons_zero, List.set_cons_succ]
        refine wpAnyH_take (i := 2) (v := ?_) rfl (by kernel_rfl) (by kernel_rfl) (by kernel_rfl) (fun _ _ _ h => h) (Or.inl ⟨by rfl, ?_⟩) hHeld ?_
        rotate_left
        · (intro wS hSw; (try dsimp only at hSw); (try go_split_ands); go_simp; try with_reducible rfl)
        try simp only [List.getElem_toArray, List.getElem_cons_succ, List.getElem_cons_zero, Act.put, List.setIfInBounds_toArray, List.set_cons_zero, List.set_cons_succ]
        refine wpAnyH_take (i := 3) (v := ?_) rfl (by kernel_rfl) (by kernel_rfl) (by kernel_rfl) (fun _ _ _ h => h) (Or.inl ⟨by rfl, ?_⟩) hHeld ?_
        rotate_left
        · (intro wS hSw; (try dsimp only at hSw); (try go_split_ands); go_simp; try with_reducible rfl)
        try simp only [List.getElem_toArray, List.getElem_cons_succ, List.getElem_cons_zero, Act.put, List.setIfInBounds_toArray, List.set_cons_zero, List.set_cons_succ]
        refine wpAnyH_take (i := 4) (v := ?_) rfl (by kernel_rfl) (by kernel_rfl) (by kernel_rfl) (fun _ _ _ h => h) (Or.inl ⟨by rfl, ?_⟩) hHeld ?_
        rotate_left
        · (intro wS hSw; (try dsimp only at hSw); (try go_split_ands); go_simp; try with_reducible rfl)
        try simp only [List.getElem_toArray, List.getElem_cons_succ, List.getElem_cons_zero, Act.put, List.setIfInBounds_toArray, List.set_cons_zero, List.set_cons_succ]
        refine wpAnyH_take (i := 5) (v := ?_) rfl (by kernel_rfl) (by kernel_rfl) (by kernel_rfl) (fun _ _ _ h => h) (Or.inl ⟨by rfl, ?_⟩) hHeld ?_
        rotate_left
        · (intro wS hSw; (try dsimp only at hSw); (try go_split_ands); go_simp; try with_reducible rfl)
        try simp only [List.getElem_toArray, List.getElem_cons_succ, List.getElem_cons_zero, Act.put, List.setIfInBounds_toArray, List.set_cons_zero, List.set_cons_succ]
        refine wpAnyH_take (i := 6) (v := ?_) rfl (by kernel_rfl) (by kernel_rfl) (by kernel_rfl) (fun _ _ _ h => h) (Or.inl ⟨by rfl, ?_⟩) hHeld ?_
        rotate_left
        · (intro wS hSw; (try dsimp only at hSw); (try go_split_ands); go_simp; try with_reducible rfl)
        try simp only [List.getElem_toArray, List.getElem_cons_succ, List.getElem_cons_zero, Act.put, List.setIfInBounds_toArray, List.set_cons_zero, List.set_cons_succ]
        refine wpAnyH_take (i := 7) (v := ?_) rfl (by kernel_rfl) (by kernel_rfl) (by kernel_rfl) (fun _ _ _ h => h) (Or.inl ⟨by rfl, ?_⟩) hHeld ?_
        rotate_left
        · (intro wS hSw; (try dsimp only at hSw); (try go_split_ands); go_simp; try with_reducible rfl)
        try simp only [List.getElem_toArray, List.getElem_cons_succ, List.getElem_cons_zero, Act.put, List.setIfInBounds_toArray, List.set_cons_zero, List.set_cons_succ]
        refine wpAnyH_take (i := 8) (v := ?_) rfl (by kernel_rfl) (by kernel_rfl) (by kernel_rfl) (fun _ _ _ h => h) (Or.inl ⟨by rfl, ?_⟩) hHeld ?_
        rotate_left
        · (intro wS hSw; (try dsimp only at hSw); (try go_split_ands); go_simp; try with_reducible rfl)
        try simp only [List.getElem_toArray, List.getElem_cons_succ, List.getElem_cons_zero, Act.put, List.setIfInBounds_toArray, List.set_cons_zero, List.set_cons_succ]
        refine wpAnyH_ready (rs := [9, 14]) (by kernel_rfl) (by simp) ?_
        refine AllReadyH.cons rfl (fun K hK => ?_) (AllReadyH.cons rfl (fun K hK => ?_) AllReadyH.nil)
        · skip
          go_simp
          (go_at_call 31; ((with_reducible refine (cw _ hHeld.2.2.2.2.2.a.b).mono ?_); rintro e X ⟨⟨aw, cpw, rfl, hRw, hX⟩, hln⟩))
          refine hK.out _ _ ?_ (fun hNext => ?_)
          · exact Z9.conj HE.out (hHeld.2.2.2.2.2.keep hX)
          have RW := Lib.hid (hRw.prs rfl)
          have HLN := Lib.hid (show L.length ≤ 2100 from Nat.le_trans hln HPK.out)
          clear hRw hX hln
          clear hK K hHeld
          have hHeld := hNext
          clear hNext
          try simp only [List.getElem_toArray, List.getElem_cons_succ, List.getElem_cons_zero, Act.put, List.setIfInBounds_toArray, List.set_cons_zero, List.set_cons_succ]
          refine wpAnyH_ready (rs := [10, 14]) (by kernel_rfl) (by simp) ?_
          refine AllReadyH.cons rfl (fun K hK => ?_) (AllReadyH.cons rfl (fun K hK => ?_) AllReadyH.nil)
          · skip
            go_simp
            (go_at_call 13; ((with_reducible refine (cs _ _ _ hHeld.2.2.2.2.2.a.b RW.out HLN.out).mono ?_); rintro e X2 ⟨aq, cq, rfl, -, hX⟩))
            refine hK.out _ _ ?_ (fun hNext => ?_)
            · exact Z9.conj HE.out (hHeld.2.2.2.2.2.keep hX)
            clear hX
            clear hK K hHeld
            have hHeld := hNext
            clear hNext
            try simp only [List.getElem_toArray, List.getElem_cons_succ, List.getElem_cons_zero, Act.put, List.setIfInBounds_toArray, List.set_cons_zero, List.set_cons_succ]
            refine wpAnyH_take (i := 11) (v := ?_) rfl (by kernel_rfl) (by kernel_rfl) (by kernel_rfl) (fun _ _ _ h => h) (Or.inl ⟨by rfl, ?_⟩) hHeld ?_
            rotate_left
            · (intro wS hSw; (try dsimp only at hSw); (try go_split_ands); go_simp; try with_reducible rfl)
            try simp only [List.getElem_toArray, List.getElem_cons_succ, List.getElem_cons_zero, Act.put, List.setIfInBounds_toArray, List.set_cons_zero, List.set_cons_succ]
            refine wpAnyH_take (i := 12) (v := ?_) rfl (by kernel_rfl) (by kernel_rfl) (by kernel_rfl) (fun _ _ _ h => h) (Or.inl ⟨by rfl, ?_⟩) hHeld ?_
            rotate_left
            · (intro wS hSw; (try dsimp only at hSw); (try go_split_ands); go_simp; try with_reducible rfl)
            try simp only [List.getElem_toArray, List.getElem_cons_succ, List.getElem_cons_zero, Act.put, List.setIfInBounds_toArray, List.set_cons_zero, List.set_cons_succ]
            refine wpAnyH_take (i := 13) (v := ?_) rfl (by kernel_rfl) (by kernel_rfl) (by kernel_rfl) (fun _ _ _ h => h) (Or.inl ⟨by rfl, ?_⟩) hHeld ?_
            rotate_left
            · (intro wS hSw; (try dsimp only at hSw); (try go_split_ands); go_simp; try with_reducible rfl)
            try simp only [List.getElem_toArray, List.getElem_cons_succ, List.getElem_cons_zero, Act.put, List.setIfInBounds_toArray, List.set_cons_zero, List.set_cons_succ]
            refine wpAnyH_ready (rs := [14]) (by kernel_rfl) (by simp) ?_
            refine AllReadyH.cons rfl (fun K hK => ?_) AllReadyH.nil
            go_simp
            have HZb := Lib.hid hHeld.2.2.2.2.2
            have hLT := Lib.hid (And.intro hHeld.2.2.2.2.2.a.p.lt hHeld.2.2.2.2.2.f.lt)
            have BX := Lib.hid (show Bk (World.alloc X2 (.cells #[.int .i64 0, .slice none 0 0] 24)) (X2).heap.size [.int .i64 0, .slice none 0 0] from Bk.new X2 #[.int .i64 0, .slice none 0 0] 24)
            refine hK.out _ _ ?_ (fun hNext => ?_)
            · exact Z9.conj HE.out (hHeld.2.2.2.2.2.keep (al1 (.cells #[.int .i64 0, .slice none 0 0] 24)))
            clear hK K hHeld
            have hHeld := hNext
            clear hNext
            try simp only [List.getElem_toArray, List.getElem_cons_succ, List.getElem_cons_zero, Act.put, List.setIfInBounds_toArray, List.set_cons_zero, List.set_cons_succ]
            have z0 := BX.out.at_ 0 _ rfl
            have z1 := BX.out.at_ 1 _ rfl
            have fz := BX.out.fr
            refine wpAnyH_ready (rs := [15]) (by kernel_rfl) (by simp) ?_
            refine AllReadyH.cons rfl (fun K hK => ?_) AllReadyH.nil
            go_simp
            refine hK.out _ _ ?_ (fun hNext => ?_)
            · first | exact Z9.conj HE.out (HZb.out.keep (al1 _)) | exact Z9.conj HE.out (hHeld.2.2.2.2.2.two hLT.out.1 (Nat.ne_of_lt hLT.out.2) _ _)
            clear hK K hHeld
            have hHeld := hNext
            clear hNext
            try simp only [List.getElem_toArray, List.getElem_cons_succ, List.getElem_cons_zero, Act.put, List.setIfInBounds_toArray, List.set_cons_zero, List.set_cons_succ]
            refine wpAnyH_take (i := 16) (v := ?_) rfl (by kernel_rfl) (by kernel_rfl) (by kernel_rfl) (fun _ _ _ h => h) (Or.inl ⟨by rfl, ?_⟩) hHeld ?_
            rotate_left
            · (intro wS hSw; (try dsimp only at hSw); (try go_split_ands); go_simp; try with_reducible rfl)
            try simp only [List.getElem_toArray, List.getElem_cons_succ, List.getElem_cons_zero, Act.put, List.setIfInBounds_toArray, List.set_cons_zero, List.set_cons_succ]
            refine wpAnyH_done (by kernel_rfl) ?_ _
            have HF := Lib.hid hHeld.2.2.2.2.2
            clear hHeld
            go_wp2_with (fail)
            go_meet
            case rel => exact ⟨rfl, HF.out⟩
          · skip
            go_simp
            have HZb := Lib.hid hHeld.2.2.2.2.2
            have hLT := Lib.hid (And.intro hHeld.2.2.2.2.2.a.p.lt hHeld.2.2.2.2.2.f.lt)
            have BX := Lib.hid (show Bk (World.alloc X (.cells #[.int .i64 0, .slice none 0 0] 24)) (X).heap.size [.int .i64 0, .slice none 0 0] from Bk.new X #[.int .i64 0, .slice none 0 0] 24)
            replace RW := Lib.hid (RW.out.below (al1 (.cells #[.int .i64 0, .slice none 0 0] 24)))
            refine hK.out _ _ ?_ (fun hNext => ?_)
            · exact Z9.conj HE.out (hHeld.2.2.2.2.2.keep (al1 (.cells #[.int .i64 0, .slice none 0 0] 24)))
            clear hK K hHeld
            have hHeld := hNext
            clear hNext
            try simp only [List.getElem_toArray, List.getElem_cons_succ, List.getElem_cons_zero, Act.put, List.setIfInBounds_toArray, List.set_cons_zero, List.set_cons_succ]
            refine wpAnyH_ready (rs := [10]) (by kernel_rfl) (by simp) ?_
            refine AllReadyH.cons rfl (fun K hK => ?_) AllReadyH.nil
            go_simp
            (go_at_call 13; ((with_reducible refine (cs _ _ _ hHeld.2.2.2.2.2.a.b RW.out HLN.out).mono ?_); rintro e X2 ⟨aq, cq, rfl, -, hX⟩))
            refine hK.out _ _ ?_ (fun hNext => ?_)
            · exact Z9.conj HE.out (hHeld.2.2.2.2.2.keep hX)
            replace BX := Lib.hid (BX.out.keep hX)
            clear hX
            clear hK K hHeld
            have hHeld := hNext
            clear hNext
            try simp only [List.getElem_toArray, List.getElem_cons_succ, List.getElem_cons_zero, Act.put, List.setIfInBounds_toArray, List.set_cons_zero, List.set_cons_succ]
            refine wpAnyH_take (i := 11) (v := ?_) rfl (by kernel_rfl) (by kernel_rfl) (by kernel_rfl) (fun _ _ _ h => h) (Or.inl ⟨by rfl, ?_⟩) hHeld ?_
            rotate_left
            · (intro wS hSw; (try dsimp only at hSw); (try go_split_ands); go_simp; try with_reducible rfl)
            try simp only [List.getElem_toArray, List.getElem_cons_succ, List.getElem_cons_zero, Act.put, List.setIfInBounds_toArray, List.set_cons_zero, List.set_cons_succ]
            refine wpAnyH_take (i := 12) (v := ?_) rfl (by kernel_rfl) (by kernel_rfl) (by kernel_rfl) (fun _ _ _ h => h) (Or.inl ⟨by rfl, ?_⟩) hHeld ?_
            rotate_left
            · (intro wS hSw; (try dsimp only at hSw); (try go_split_ands); go_simp; try with_reducible rfl)
            try simp only [List.getElem_toArray, List.getElem_cons_succ, List.getElem_cons_zero, Act.put, List.setIfInBounds_toArray, List.set_cons_zero, List.set_cons_succ]
            refine wpAnyH_take (i := 13) (v := ?_) rfl (by kernel_rfl) (by kernel_rfl) (by kernel_rfl) (fun _ _ _ h => h) (Or.inl ⟨by rfl, ?_⟩) hHeld ?_
            rotate_left
            · (intro wS hSw; (try dsimp only at hSw); (try go_split_ands); go_simp; try with_reducible rfl)
            try simp only [List.getElem_toArray, List.getElem_cons_succ, List.getElem_cons_zero, Act.put, List.setIfInBounds_toArray, List.set_cons_zero, List.set_cons_succ]
            have z0 := BX.out.at_ 0 _ rfl
            have z1 := BX.out.at_ 1 _ rfl
            have fz := BX.out.fr
            refine wpAnyH_ready (rs := [15]) (by kernel_rfl) (by simp) ?_
            refine AllReadyH.cons rfl (fun K hK => ?_) AllReadyH.nil
            go_simp
            refine hK.out _ _ ?_ (fun hNext => ?_)
            · first | exact Z9.conj HE.out (HZb.out.keep (al1 _)) | exact Z9.conj HE.out (hHeld.2.2.2.2.2.two hLT.out.1 (Nat.ne_of_lt hLT.out.2) _ _)
            clear hK K hHeld
            have hHeld := hNext
            clear hNext
            try simp only [List.getElem_toArray, List.getElem_cons_succ, List.getElem_cons_zero, Act.put, List.setIfInBounds_toArray, List.set_cons_zero, List.set_cons_succ]
            refine wpAnyH_take (i := 16) (v := ?_) rfl (by kernel_rfl) (by kernel_rfl) (by kernel_rfl) (fun _ _ _ h => h) (Or.inl ⟨by rfl, ?_⟩) hHeld ?_
            rotate_left
            · (intro wS hSw; (try dsimp only at hSw); (try go_split_ands); go_simp; try with_reducible rfl)
            try simp only [List.getElem_toArray, List.getElem_cons_succ, List.getElem_cons_zero, Act.put, List.setIfInBounds_toArray, List.set_cons_zero, List.set_cons_succ]
            refine wpAnyH_done (by kernel_rfl) ?_ _
            have HF := Lib.hid hHeld.2.2.2.2.2
            clear hHeld
            go_wp2_with (fail)
            go_meet
            case rel => exact ⟨rfl, HF.out⟩
        · skip
          go_simp
          have HZb := Lib.hid hHeld.2.2.2.2.2
          have hLT := Lib.hid (And.intro hHeld.2.2.2.2.2.a.p.lt hHeld.2.2.2.2.2.f.lt)
          have BX := Lib.hid (show Bk (World.alloc wr.drew (.cells #[.int .i64 0, .slice none 0 0] 24)) (wr).heap.size [.int .i64 0, .slice none 0 0] from Bk.new wr.drew #[.int .i64 0, .slice none 0 0] 24)
          refine hK.out _ _ ?_ (fun hNext => ?_)
          · exact Z9.conj HE.out (hHeld.2.2.2.2.2.keep (al1 (.cells #[.int .i64 0, .slice none 0 0] 24)))
          clear hK K hHeld
          have hHeld := hNext
          clear hNext
          try simp only [List.getElem_toArray, List.getElem_cons_succ, List.getElem_cons_zero, Act.put, List.setIfInBounds_toArray, List.set_cons_zero, List.set_cons_succ]
          refine wpAnyH_ready (rs := [9]) (by kernel_rfl) (by simp) ?_
          refine AllReadyH.cons rfl (fun K hK => ?_) AllReadyH.nil
          go_simp
          (go_at_call 31; ((with_reducible refine (cw _ hHeld.2.2.2.2.2.a.b).mono ?_); rintro e X ⟨⟨aw, cpw, rfl, hRw, hX⟩, hln⟩))
          refine hK.out _ _ ?_ (fun hNext => ?_)
          · exact Z9.conj HE.out (hHeld.2.2.2.2.2.keep hX)
          have RW := Lib.hid (hRw.prs rfl)
          have HLN := Lib.hid (show L.length ≤ 2100 from Nat.le_trans hln HPK.out)
          replace BX := Lib.hid (BX.out.keep hX)
          clear hRw hX hln
          clear hK K hHeld
          have hHeld := hNext
          clear hNext
          try simp only [List.getElem_toArray, List.getElem_cons_succ, List.getElem_cons_zero, Act.put, List.setIfInBounds_toArray, List.set_cons_zero, List.set_cons_succ]
          refine wpAnyH_ready (rs := [10]) (by kernel_rfl) (by simp) ?_
          refine AllReadyH.cons rfl (fun K hK => ?_) AllReadyH.nil
          go_simp
          (go_at_call 13; ((with_reducible refine (cs _ _ _ hHeld.2.2.2.2.2.a.b RW.out HLN.out).mono ?_); rintro e X2 ⟨aq, cq, rfl, -, hX⟩))
          refine hK.out _ _ ?_ (fun hNext => ?_)
          · exact Z9.conj HE.out (hHeld.2.2.2.2.2.keep hX)
          replace BX := Lib.hid (BX.out.keep hX)
          clear hX
          clear hK K hHeld
          have hHeld := hNext
          clear hNext
          try simp only [List.getElem_toArray, List.getElem_cons_succ, List.getElem_cons_zero, Act.put, List.setIfInBounds_toArray, List.set_cons_zero, List.set_cons_succ]
          refine wpAnyH_take (i := 11) (v := ?_) rfl (by kernel_rfl) (by kernel_rfl) (by kernel_rfl) (fun _ _ _ h => h) (Or.inl ⟨by rfl, ?_⟩) hHeld ?_
          rotate_left
          · (intro wS hSw; (try dsimp only at hSw); (try go_split_ands); go_simp; try with_reducible rfl)
          try simp only [List.getElem_toArray, List.getElem_cons_succ, List.getElem_cons_zero, Act.put, List.setIfInBounds_toArray, List.set_cons_zero, List.set_cons_succ]
          refine wpAnyH_take (i := 12) (v := ?_) rfl (by kernel_rfl) (by kernel_rfl) (by kernel_rfl) (fun _ _ _ h => h) (Or.inl ⟨by rfl, ?_⟩) hHeld ?_
          rotate_left
          · (intro wS hSw; (try dsimp only at hSw); (try go_split_ands); go_simp; try with_reducible rfl)
          try simp only [List.getElem_toArray, List.getElem_cons_succ, List.getElem_cons_zero, Act.put, List.setIfInBounds_toArray, List.set_cons_zero, List.set_cons_succ]
          refine wpAnyH_take (i := 13) (v := ?_) rfl (by kernel_rfl) (by kernel_rfl) (by kernel_rfl) (fun _ _ _ h => h) (Or.inl ⟨by rfl, ?_⟩) hHeld ?_
          rotate_left
          · (intro wS hSw; (try dsimp only at hSw); (try go_split_ands); go_simp; try with_reducible rfl)
          try simp only [List.getElem_toArray, List.getElem_cons_succ, List.getElem_cons_zero, Act.put, List.setIfInBounds_toArray, List.set_cons_zero, List.set_cons_succ]
          have z0 := BX.out.at_ 0 _ rfl
          have z1 := BX.out.at_ 1 _ rfl
          have fz := BX.out.fr
          refine wpAnyH_ready (rs := [15]) (by kernel_rfl) (by simp) ?_
          refine AllReadyH.cons rfl (fun K hK => ?_) AllReadyH.nil
          go_simp
          refine hK.out _ _ ?_ (fun hNext => ?_)
          · first | exact Z9.conj HE.out (HZb.out.keep (al1 _)) | exact Z9.conj HE.out (hHeld.2.2.2.2.2.two hLT.out.1 (Nat.ne_of_lt hLT.out.2) _ _)
          clear hK K hHeld
          have hHeld := hNext
          clear hNext
          try simp only [List.getElem_toArray, List.getElem_cons_succ, List.getElem_cons_zero, Act.put, List.setIfInBounds_toArray, List.set_cons_zero, List.set_cons_succ]
          refine wpAnyH_take (i := 16) (v := ?_) rfl (by kernel_rfl) (by kernel_rfl) (by kernel_rfl) (fun _ _ _ h => h) (Or.inl ⟨by rfl, ?_⟩) hHeld ?_
          rotate_left
          · (intro wS hSw; (try dsimp only at hSw); (try go_split_ands); go_simp; try with_reducible rfl)
          try simp only [List.getElem_toArray, List.getElem_cons_succ, List.getElem_cons_zero, Act.put, List.setIfInBounds_toArray, List.set_cons_zero, List.set_cons_succ]
          refine wpAnyH_done (by kernel_rfl) ?_ _
          have HF := Lib.hid hHeld.2.2.2.2.2
          clear hHeld
          go_wp2_with (fail)
          go_meet
          case rel => exact ⟨rfl, HF.out⟩
      case rest =>
        obtain ⟨rfl, hZ⟩ := hcut
        have f0 := hZ.f.at_ 0 _ rfl
        have HZ5 := Lib.hid hZ
        have hx := HX.out
        clear hZ
        go_wp2_with (go_at_call 10; ((with_reducible refine (caw _).mono ?_); clear caw; rintro e W4 ⟨rfl, hb4⟩; have HB4 := Lib.hid (bel2 HZ5.out.a.b hb4); clear hb4))
        go_ret
        exact ⟨rfl, HB4.out⟩

theorem walk (t0 : Int) (a0 : Option Addr) (cap0 : Nat) (N0 : List Nd) (k1 v1 : Int) (a2 : Int) (w : World) (w0 : Ns w a0 cap0 N0) (s0 : Mid N0) (w2 : (Lit.int .i64 a2).wf = true) :
    Calls Try.prog 4 #[.agg #[.int .i64 t0, .slice a0 N0.length cap0], .agg #[.int .i64 k1, .int .i64 v1], .int .i64 a2] w fun e w' => e = .returned (.bool true) ∧ Below w.heap.size w w' := by
  by_cases hL : Lgt N0
  · rcases Classical.em (∃ s, Tr N0 s t0) with ⟨s, hs⟩ | hs
    · exact walk_yes t0 a0 cap0 N0 w w0 s0 k1 v1 a2 hL s hs
    · exact walk_no t0 a0 cap0 N0 w w0 s0 k1 v1 a2 hL (fun s h => hs ⟨s, h⟩)
  · exact walk_big t0 a0 cap0 N0 w w0 s0 k1 v1 a2 hL

set_option maxRecDepth 100000 in
theorem lifted (os : Os) (started : os.Started) (H : Type) (enc : TypeId × Value → H) :
    ReturnsInHanded {} Try.checked os 4 .any (Rows.treeOnlySpec.pre6 enc Try.prog Try.f4 Rows.treeOnlyRow.domain false) (Rows.treeOnlySpec.post enc Try.prog Try.f4 false true false false) := by
  refine returnsInHanded_of_change_sized (C := Try.checked) own started (by kernel_rfl) Try.func4
    (ChangeSpec.witness6 (enc := enc) (C := Try.checked) false ⟨#[], #[.agg #[.int .i64 0, .slice none 0 0], .agg #[.int .i64 0, .int .i64 0], .int .i64 0], []⟩ 8 (by kernel_rfl) (by kernel_rfl) (by kernel_rfl) (by kernel_rfl)) ?_
  intro W base args ds gs before hval0 hW hcnd hsz _
  have hval : ∀ (j : Nat) t v, Try.f4.params[j]? = some t → args[j]? = some v → Value.okWide Try.prog W .any base t v := hval0
  have hW' := hW
  obtain ⟨p, q, hA0, hV, rfl, hfz, hnd⟩ := hW
  have hA : DataW.TrodAll enc Try.prog W 0 (fun _ => true) true Try.f4.params.toList args.toList ds p := hA0
  rw [Try.params4] at hA hval
  obtain ⟨v0, vs0, d0, ds0, p0, q0, hargs, rfl, rfl, h0, r0⟩ := trodAll_cons hA
  obtain ⟨v1, vs1, d1, ds1, p1, q1, rfl, rfl, rfl, h1, r1⟩ := trodAll_cons r0
  obtain ⟨v2, vs2, d2, ds2, p2, q2, rfl, rfl, rfl, h2, r2⟩ := trodAll_cons r1
  obtain ⟨rfl, rfl, rfl⟩ := trodAll_nil r2
  obtain rfl : args = #[v0, v1, v2] := by cases args; simp_all
  obtain ⟨rfl, rfl⟩ := trodVars_none hV
  have k0 := h0
  have lt0 : ∀ x ∈ p0, x.block < W.heap.size := by obtain ⟨m, hm⟩ := k0; exact DataW.trod_lt m _ _ _ hm
  obtain ⟨u0, rfl, _⟩ := okWide_struct Try.underlying24 (hval 0 24 v0 rfl rfl)
  obtain ⟨t0_, a0, cap0, N0, e0, w0, s0⟩ := fields_tree (enc := enc) (w := W) (cs := u0.toList) (fuel := h0.choose) (by simpa [Value.cells] using h0.choose_spec) (fun n hn => by simpa using List.all_eq_true.1 hsz n (DataW.weights_mem_each (j := 0) rfl rfl n hn))
  obtain rfl : u0 = #[.int .i64 t0_, .slice a0 N0.length cap0] := by cases u0; simp_all
  have k1 := h1
  have lt1 : ∀ x ∈ p1, x.block < W.heap.size := by obtain ⟨m, hm⟩ := k1; exact DataW.trod_lt m _ _ _ hm
  obtain ⟨u1, rfl, _⟩ := okWide_struct Try.underlying48 (hval 1 48 v1 rfl rfl)
  obtain ⟨k1_, v1_, e1⟩ := fields_pair (enc := enc) (w := W) (cs := u1.toList) (fuel := h1.choose) (by simpa [Value.cells] using h1.choose_spec)
  obtain rfl : u1 = #[.int .i64 k1_, .int .i64 v1_] := by cases u1; simp_all
  have k2 := h2
  have lt2 : ∀ x ∈ p2, x.block < W.heap.size := by obtain ⟨m, hm⟩ := k2; exact DataW.trod_lt m _ _ _ hm
  obtain ⟨a2, rfl, rfl, rfl, w2⟩ := open_int Try.underlying3 (hval 2 3 v2 rfl rfl) h2
  clear hA0 hval0
  refine (walk t0_ a0 cap0 N0 k1_ v1_ a2 W w0 s0 w2).mono fun e W' ⟨he, bel⟩ => ?_
  subst he
  exact ⟨_, rfl, _, _, _, [], _, [], hW', trodAll_mk1 (shut_bool Try.underlying4 _), (trodAll_cons_mk (Below.trod laidOut (by kernel_rfl) (of_decide_eq_true (by kernel_rfl)) k0 bel lt0) (trodAll_cons_mk (Below.trod laidOut (by kernel_rfl) (of_decide_eq_true (by kernel_rfl)) k1 bel lt1) (trodAll_cons_mk (Below.trod laidOut (by kernel_rfl) (of_decide_eq_true (by kernel_rfl)) k2 bel lt2) trodAll_mk0))), rfl, bel.frame _, fun h => by cases h⟩

theorem over : Rows.treeOnlyRow.holds Try.pinned (OpenSpec.ofChange Rows.treeOnlySpec) :=
  OpenClaim.holds_of_wide 4 Try.f4 rfl rfl rfl rfl rfl rfl rfl ⟨rfl, rfl, rfl, rfl, rfl⟩ rfl rfl rfl rfl rfl (by kernel_rfl) Try.func4 (by kernel_rfl)
    (of_decide_eq_true (by kernel_rfl)) (by unfold Func.isWrapper; first | (rw [if_pos (by decide +kernel)]; kernel_rfl) | (rw [if_neg (by decide +kernel)]; exact ⟨rfl, rfl⟩))
    (fun os started H enc _ => lifted os started H enc)

theorem treeOnlyHolds : Rows.TreeOnlySaid := over
#print axioms treeOnlyHolds
end Go.Proofs.Ytlpjbgojijkdjaa.treeOnly
