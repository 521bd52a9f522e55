/- The plain mathematics of package mix: what Prio computes, as bits of 64 places; that unlike keys have unlike ranks; that 'above' is one row of all keys. No condition. -/
import Derived.WalkKit
import Derived.ProofKit
import Derived.OpenShut
namespace Go.Proofs.Ytbmlpdkbiipcmaa
open Go.ChangeShapes Go.WideShapes Go.ChangeAt Go.RowKit

/-- The finisher, over bits. -/
def mixB (k : BitVec 64) : BitVec 64 :=
  let x1 := k + 11400714819323198485#64
  let x2 := (x1 ^^^ (x1 >>> 30)) * 13787848793156543929#64
  let x3 := (x2 ^^^ (x2 >>> 27)) * 10723151780598845931#64
  x3 ^^^ (x3 >>> 31)

def prio (a : Int) : Int := ((mixB (BitVec.ofInt 64 a)).toNat : Int)

/-- Does a stand above b? -/
def abv (a b : Int) : Bool := decide (prio b < prio a) || (prio a == prio b && decide (a < b))

theorem wrapU (n : Int) : IntKind.u64.wrap n = n % 18446744073709551616 := by
  simp [IntKind.wrap, IntKind.bits, IntKind.signed]

theorem ofInt_toNat (n : Int) : ((BitVec.ofInt 64 n).toNat : Int) = n % 18446744073709551616 := by
  rw [BitVec.toNat_ofInt, Int.toNat_of_nonneg (Int.emod_nonneg _ (by decide))]
  rfl

theorem xorB (X Y : BitVec 64) : bits .xor .u64 (X.toNat : Int) (Y.toNat : Int) = ((X ^^^ Y).toNat : Int) := by
  have hx : BitVec.ofInt 64 (X.toNat : Int) = X := by rw [BitVec.ofInt_natCast, BitVec.ofNat_toNat, BitVec.setWidth_eq]
  have hy : BitVec.ofInt 64 (Y.toNat : Int) = Y := by rw [BitVec.ofInt_natCast, BitVec.ofNat_toNat, BitVec.setWidth_eq]
  have e : bits .xor .u64 (X.toNat : Int) (Y.toNat : Int) = IntKind.u64.wrap (((BitVec.ofInt 64 (X.toNat : Int)) ^^^ (BitVec.ofInt 64 (Y.toNat : Int))).toNat : Int) := rfl
  rw [e, hx, hy, wrapU]
  have := (X ^^^ Y).isLt
  omega

theorem shrB (X : BitVec 64) (k : Nat) : ((X >>> k).toNat : Int) = (X.toNat : Int) / ((2 ^ k : Nat) : Int) := by
  rw [BitVec.toNat_ushiftRight, Nat.shiftRight_eq_div_pow]; rfl

theorem addB (X : BitVec 64) (c : Nat) : IntKind.u64.wrap ((X.toNat : Int) + (c : Int)) = ((X + BitVec.ofNat 64 c).toNat : Int) := by
  rw [wrapU, BitVec.toNat_add, BitVec.toNat_ofNat]
  omega

theorem mulB (X : BitVec 64) (c : Nat) : IntKind.u64.wrap ((X.toNat : Int) * (c : Int)) = ((X * BitVec.ofNat 64 c).toNat : Int) := by
  rw [wrapU, BitVec.toNat_mul, BitVec.toNat_ofNat, Nat.mul_mod_mod, ← Int.natCast_mul]
  generalize X.toNat * c = p
  omega

/-- What the walk finds is the finisher. -/
theorem prio_eq (a : Int) (x1 x2 x3 : Int)
    (h1 : x1 = IntKind.u64.wrap (IntKind.u64.wrap a + 11400714819323198485))
    (h2 : x2 = IntKind.u64.wrap (bits BinOp.xor IntKind.u64 x1 (x1 / 1073741824) * 13787848793156543929))
    (h3 : x3 = IntKind.u64.wrap (bits BinOp.xor IntKind.u64 x2 (x2 / 134217728) * 10723151780598845931)) :
    bits BinOp.xor IntKind.u64 x3 (x3 / 2147483648) = prio a := by
  have g0 : IntKind.u64.wrap a = ((BitVec.ofInt 64 a).toNat : Int) := by rw [wrapU, ofInt_toNat]
  rw [g0] at h1
  have g1 := addB (BitVec.ofInt 64 a) 11400714819323198485
  have g1' : x1 = ((BitVec.ofInt 64 a + 11400714819323198485#64).toNat : Int) := h1.trans g1
  generalize hX1 : BitVec.ofInt 64 a + 11400714819323198485#64 = X1 at g1'
  subst g1'
  have s1 : (X1.toNat : Int) / (1073741824 : Int) = ((X1 >>> 30).toNat : Int) := (shrB X1 30).symm
  rw [s1, xorB] at h2
  have g2 := mulB (X1 ^^^ X1 >>> 30) 13787848793156543929
  have g2' : x2 = (((X1 ^^^ X1 >>> 30) * 13787848793156543929#64).toNat : Int) := h2.trans g2
  generalize hX2 : (X1 ^^^ X1 >>> 30) * 13787848793156543929#64 = X2 at g2'
  subst g2'
  have s2 : (X2.toNat : Int) / (134217728 : Int) = ((X2 >>> 27).toNat : Int) := (shrB X2 27).symm
  rw [s2, xorB] at h3
  have g3 := mulB (X2 ^^^ X2 >>> 27) 10723151780598845931
  have g3' : x3 = (((X2 ^^^ X2 >>> 27) * 10723151780598845931#64).toNat : Int) := h3.trans g3
  generalize hX3 : (X2 ^^^ X2 >>> 27) * 10723151780598845931#64 = X3 at g3'
  subst g3'
  have s3 : (X3.toNat : Int) / (2147483648 : Int) = ((X3 >>> 31).toNat : Int) := (shrB X3 31).symm
  rw [s3, xorB]
  subst hX3 hX2 hX1
  rfl

/-! ### unlike keys have unlike ranks -/
theorem shift_inj (n : Nat) (h : 0 < n) (x y : BitVec 64) (e : x ^^^ (x >>> n) = y ^^^ (y >>> n)) : x = y := by
  have hd : (x ^^^ y) = (x ^^^ y) >>> n := by
    rw [BitVec.ushiftRight_xor_distrib]
    have : (x ^^^ (x >>> n)) ^^^ (y ^^^ (x >>> n)) = (y ^^^ (y >>> n)) ^^^ (y ^^^ (x >>> n)) := by rw [e]
    have l : (x ^^^ (x >>> n)) ^^^ (y ^^^ (x >>> n)) = x ^^^ y := by
      ext i hi; simp only [BitVec.getElem_xor]; cases x[i] <;> cases y[i] <;> cases (x >>> n)[i] <;> rfl
    have r : (y ^^^ (y >>> n)) ^^^ (y ^^^ (x >>> n)) = (x >>> n) ^^^ (y >>> n) := by
      ext i hi; simp only [BitVec.getElem_xor]; cases y[i] <;> cases (y >>> n)[i] <;> cases (x >>> n)[i] <;> rfl
    rw [l, r] at this
    exact this
  have hk : ∀ k : Nat, (x ^^^ y) = (x ^^^ y) >>> (n * k) := by
    intro k
    induction k with
    | zero => simp
    | succ k ih => rw [Nat.mul_succ, BitVec.shiftRight_add, ← ih]; exact hd
  have h0 := hk 64
  rw [BitVec.ushiftRight_eq_zero (by have : 1 * 64 ≤ n * 64 := Nat.mul_le_mul_right _ h; omega)] at h0
  have : (x ^^^ y) ^^^ y = y := by rw [h0]; simp
  have l : (x ^^^ y) ^^^ y = x := by
    ext i hi; simp only [BitVec.getElem_xor]; cases x[i] <;> cases y[i] <;> rfl
  rw [l] at this
  exact this

theorem mul_inj (c d : BitVec 64) (h : c * d = 1#64) (x y : BitVec 64) (e : x * c = y * c) : x = y := by
  have : x * c * d = y * c * d := by rw [e]
  rw [BitVec.mul_assoc, BitVec.mul_assoc, h] at this
  simpa using this

theorem mixB_inj (x y : BitVec 64) (e : mixB x = mixB y) : x = y := by
  unfold mixB at e
  have e3 := shift_inj 31 (by decide) _ _ e
  have e2 := shift_inj 27 (by decide) _ _ (mul_inj 10723151780598845931#64 3573116690164977347#64 (by decide +kernel) _ _ e3)
  have e1 := shift_inj 30 (by decide) _ _ (mul_inj 13787848793156543929#64 10871156337175269513#64 (by decide +kernel) _ _ e2)
  have e0 : x + 11400714819323198485#64 - 11400714819323198485#64 = y + 11400714819323198485#64 - 11400714819323198485#64 := by rw [e1]
  simpa using e0

theorem prio_inj (a b : Int) (ha : (Lit.int .i64 a).wf = true) (hb : (Lit.int .i64 b).wf = true) (e : prio a = prio b) : a = b := by
  have ba := bounds_i64 ha
  have bb := bounds_i64 hb
  have e' : (mixB (BitVec.ofInt 64 a)).toNat = (mixB (BitVec.ofInt 64 b)).toNat := by unfold prio at e; omega
  have := mixB_inj _ _ (BitVec.eq_of_toNat_eq e')
  have t : (BitVec.ofInt 64 a).toNat = (BitVec.ofInt 64 b).toNat := by rw [this]
  have t' : ((BitVec.ofInt 64 a).toNat : Int) = ((BitVec.ofInt 64 b).toNat : Int) := by rw [t]
  rw [ofInt_toNat, ofInt_toNat] at t'
  omega

theorem prio0 : prio 0 = 16294208416658607535 := by unfold prio; decide +kernel

/-! ### 'above' is one row -/
theorem abv_self (a : Int) : abv a a = false := by unfold abv; simp
theorem abv_or (a b : Int) (h : a ≠ b) : abv a b = !abv b a := by
  unfold abv
  rcases Int.lt_trichotomy (prio a) (prio b) with c | c | c
  · have c2 : ¬ prio b < prio a := by omega
    have c3 : ¬ prio a = prio b := by omega
    simp [c, c2, c3]
  · rcases Int.lt_or_gt_of_ne h with d | d
    · have d2 : ¬ b < a := by omega
      simp [c, d, d2]
    · have d2 : ¬ a < b := by omega
      simp [c, d, d2]
  · have c2 : ¬ prio a < prio b := by omega
    have c3 : ¬ prio b = prio a := by omega
    simp [c, c2, c3]
theorem abv_iff (a b : Int) : abv a b = true ↔ (prio b < prio a ∨ (prio a = prio b ∧ a < b)) := by unfold abv; simp
theorem abv_trans (a b c : Int) (h : abv a b = true) (k : abv b c = true) : abv a c = true := by
  rw [abv_iff] at *; omega
theorem abv_01 : abv 0 1 = decide (prio 1 < prio 0) := by
  have : ¬ prio 0 = prio 1 := by unfold prio; decide +kernel
  unfold abv
  simp [this]
end Go.Proofs.Ytbmlpdkbiipcmaa
