/- Plain mathematics of x ^ y on 64 bits: it is x just if y is nought. -/
import Derived.Test.YtbmlpdkbiipcmaaMath
namespace Go.Proofs.Ytbmlpdkbiipcmaa
open Go.RowKit
set_option linter.all false
theorem xorI (s a : Int) : bits .xor .i64 s a = IntKind.i64.wrap (((BitVec.ofInt 64 s) ^^^ (BitVec.ofInt 64 a)).toNat : Int) := rfl
theorem ofInt_wrap (Z : BitVec 64) : BitVec.ofInt 64 (IntKind.i64.wrap (Z.toNat : Int)) = Z := by
  apply BitVec.eq_of_toNat_eq
  rw [BitVec.toNat_ofInt, IntKind.wrap_i64]
  have := Z.isLt
  simp only [Nat.reducePow] at *
  omega
theorem xor_self0 (s a : Int) (hs : -9223372036854775808 ≤ s ∧ s ≤ 9223372036854775807) (ha : -9223372036854775808 ≤ a ∧ a ≤ 9223372036854775807) : (bits .xor .i64 s a == s) = (a == 0) := by
  by_cases h0 : a = 0
  · subst h0
    have e : bits .xor .i64 s 0 = s := by
      rw [xorI, show BitVec.ofInt 64 0 = 0#64 from rfl, BitVec.xor_zero, BitVec.toNat_ofInt, IntKind.wrap_i64]
      simp only [Nat.reducePow]
      omega
    rw [e]
    simp
  · rw [show (a == 0) = false by simp [h0], beq_eq_false_iff_ne]
    intro e
    rw [xorI] at e
    have e2 := congrArg (BitVec.ofInt 64) e
    rw [ofInt_wrap] at e2
    have e3 : BitVec.ofInt 64 a = 0#64 := by
      have := congrArg (fun z => BitVec.ofInt 64 s ^^^ z) e2
      simp only [← BitVec.xor_assoc, BitVec.xor_self, BitVec.zero_xor] at this
      exact this
    have e4 := congrArg BitVec.toNat e3
    rw [BitVec.toNat_ofInt] at e4
    simp only [Nat.reducePow] at e4
    have e5 : (0#64).toNat = 0 := rfl
    omega
end Go.Proofs.Ytbmlpdkbiipcmaa
