/-
  Plain facts on words of 64 bits: all bits turned, the first bit set, the first bit turned; no program is named here.
-/
import Derived.Test.YtmagldelgnkkfaaM
import Derived.Laws.Bits64b
import Derived.Laws.Bits64
namespace Go.Proofs.Ytmagldelgnkkfaa

theorem add_xor {x : Nat} (h : x < 2 ^ 63) : x ^^^ 2 ^ 63 = 2 ^ 63 + x := by
  apply Nat.eq_of_testBit_eq
  intro j
  rw [Nat.testBit_xor, Nat.testBit_two_pow]
  by_cases c : j = 63
  · subst c
    rw [Nat.testBit_two_pow_add_eq]; simp
  · by_cases d : j < 63
    · rw [Nat.testBit_two_pow_add_gt d]
      have : ¬ 63 = j := by omega
      simp [this]
    · have p : 2 ^ 64 ≤ 2 ^ j := Nat.pow_le_pow_right (by omega) (by omega)
      have e1 : x.testBit j = false := Nat.testBit_lt_two_pow (by omega)
      have e2 : (2 ^ 63 + x).testBit j = false := Nat.testBit_lt_two_pow (by omega)
      have : ¬ 63 = j := by omega
      rw [e1, e2]; simp [this]
/-- The word with its sign turned. -/
def turn (x : Nat) : Nat := if x < 9223372036854775808 then x + 9223372036854775808 else x - 9223372036854775808
theorem xor_turn {x : Nat} (h : x < 18446744073709551616) : x ^^^ 9223372036854775808 = turn x := by
  unfold turn
  by_cases c : x < 9223372036854775808
  · rw [if_pos c, show (9223372036854775808 : Nat) = 2 ^ 63 by decide, add_xor (by simpa using c), Nat.add_comm]
  · rw [if_neg c]
    obtain ⟨y, rfl⟩ : ∃ y, x = 9223372036854775808 + y := ⟨x - 9223372036854775808, by omega⟩
    have := add_xor (x := y) (by omega)
    rw [show (9223372036854775808 : Nat) = 2 ^ 63 by decide, ← this, Nat.xor_assoc, Nat.xor_self, Nat.xor_zero]
    omega
theorem turn_lt {x : Nat} (h : x < 18446744073709551616) : turn x < 18446744073709551616 := by unfold turn; split <;> omega
theorem bits_turn {x : Nat} (h : x < 18446744073709551616) : bits .xor .u64 (x : Int) 9223372036854775808 = (turn x : Nat) := by
  have := bits_xor_u64_nat x 9223372036854775808 h (by omega)
  rw [xor_turn h] at this
  exact this
theorem bits_not {x : Nat} (h : x < 18446744073709551616) : bits .xor .u64 IntKind.u64.max (x : Int) = ((18446744073709551615 - x : Nat) : Int) := by
  have e : IntKind.u64.max = ((18446744073709551615 : Nat) : Int) := by decide
  rw [e, bits_xor_u64_nat _ _ (by omega) h]
  congr 1
  apply Nat.eq_of_testBit_eq
  intro j
  have e2 : 18446744073709551615 - x = 2 ^ 64 - (x + 1) := by omega
  rw [Nat.testBit_xor, e2, Nat.testBit_two_pow_sub_succ (by omega), show (18446744073709551615 : Nat) = 2 ^ 64 - 1 by decide, Nat.testBit_two_pow_sub_one]
  by_cases d : j < 64
  · simp [d]
  · have p : 2 ^ 64 ≤ 2 ^ j := Nat.pow_le_pow_right (by omega) (by omega)
    have e1 : x.testBit j = false := Nat.testBit_lt_two_pow (by omega)
    simp [d, e1]
theorem bits_top {x : Nat} (h : x < 9223372036854775808) : bits .or .u64 (x : Int) 9223372036854775808 = ((x + 9223372036854775808 : Nat) : Int) := by
  have e := bits_or_u64_nat x 9223372036854775808 (by omega) (by omega)
  have f : x ||| 9223372036854775808 = x + 9223372036854775808 := by
    have := Nat.two_pow_add_eq_or_of_lt (i := 63) (b := x) (by omega) 1
    rw [show (9223372036854775808 : Nat) = 2 ^ 63 by decide, Nat.or_comm]
    simpa [Nat.add_comm] using this.symm
  rw [f] at e
  exact e
end Go.Proofs.Ytmagldelgnkkfaa
