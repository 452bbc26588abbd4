/-
  Whole numbers as floats, and their quotients; no program is named here.
-/
import Derived.Test.YtmagldelgnkkfaaM
import Derived.Laws.FloatArith
namespace Go.Proofs.Ytmagldelgnkkfaa

theorem dbl_word (s : Bool) (r : Nat) : Ieee.double.word s r = if s = true then 9223372036854775808 + r else r := by
  have : Ieee.double.signWeight = 9223372036854775808 := by decide
  unfold Ieee.Format.word; rw [this]
theorem word_sgn {s : Bool} {r : Nat} (h : r < 9223372036854775808) : sgn (Ieee.double.word s r) = s := by
  rw [dbl_word]; unfold sgn
  cases s
  · rw [if_neg (by simp), Nat.div_eq_of_lt h]; rfl
  · rw [if_pos rfl, show (9223372036854775808 + r) / 9223372036854775808 = 1 by omega]; rfl
theorem word_rng {s : Bool} {r : Nat} (h : r < 9223372036854775808) : rng (Ieee.double.word s r) = r := by
  rw [dbl_word]; unfold rng
  split <;> omega
theorem word_nan {s : Bool} {r : Nat} (h : r ≤ 9218868437227405312) : nanB (Ieee.double.word s r) = false := by
  unfold nanB; rw [word_rng (by omega), decide_eq_false_iff_not]; omega
theorem word_fits {s : Bool} {r : Nat} (h : r ≤ 9218868437227405312) : Ieee.double.word s r < 18446744073709551616 := by
  rw [dbl_word]; split <;> omega

/-- Nothing is rounded up beyond one. -/
theorem cut_le (s : Bool) (n d : Nat) : Ieee.Toward.even.cut s n d ≤ n / (1 <<< min d (n.log2 + 2)) + 1 := by
  unfold Ieee.Toward.cut
  have : ∀ b : Bool, b.toNat ≤ 1 := fun b => by cases b <;> decide
  exact Nat.add_le_add_left (this _) _

/-- A whole number that is not 0, as a float: a number with its sign, that is not 0. -/
theorem of_int {n : Int} (h0 : n ≠ 0) (h : n.natAbs ≤ 9223372036854775808) :
    ∃ r : Nat, floatOfInt .f64 n = Ieee.double.word (decide (n < 0)) r ∧ 4503599627370496 ≤ r ∧ r < 9218868437227405312 := by
  show ∃ r : Nat, Ieee.double.nearest (decide (n < 0)) n.natAbs 0 = _ ∧ _ ∧ _
  generalize decide (n < 0) = s
  obtain ⟨m, hm⟩ : ∃ m, n.natAbs = m := ⟨_, rfl⟩
  rw [hm] at h ⊢
  have m0 : m ≠ 0 := by omega
  unfold Ieee.Format.nearest
  rw [if_neg m0]
  have e1 : (Ieee.double.fractionBits : Int) = 52 := by decide
  have e3 : Ieee.double.leastPlace = -1074 := by decide
  have e4 : Ieee.double.infRung = 9218868437227405312 := by decide
  have e2 : Ieee.double.binade = 4503599627370496 := by decide
  simp only [e1, e2, e3, e4]
  have l1 : 2 ^ m.log2 ≤ m := Nat.log2_self_le m0
  have l2 : m < 2 ^ (m.log2 + 1) := Nat.lt_log2_self
  have l3 : m.log2 ≤ 63 := by
    apply Nat.le_of_not_lt; intro hc
    have : 2 ^ 64 ≤ 2 ^ m.log2 := Nat.pow_le_pow_right (by omega) (by omega)
    omega
  generalize hL : m.log2 = L at *
  have e5 : max (0 + (L : Int) - 52) (-1074) = (L : Int) - 52 := by omega
  rw [e5]
  obtain ⟨k, hk⟩ : ∃ k, Ieee.Toward.even.cut s (m <<< ((0 : Int) - ((L : Int) - 52)).toNat) (((L : Int) - 52) - 0).toNat = k := ⟨_, rfl⟩
  rw [hk]
  have kb : k ≤ 9007199254740993 := by
    subst hk
    refine Nat.le_trans (cut_le _ _ _) ?_
    by_cases c : L ≤ 52
    · have d1 : ((0 : Int) - ((L : Int) - 52)).toNat = 52 - L := by omega
      have d2 : (((L : Int) - 52) - 0).toNat = 0 := by omega
      rw [d1, d2, Nat.zero_min, Nat.shiftLeft_eq, Nat.shiftLeft_eq]
      have : m * 2 ^ (52 - L) < 2 ^ (L + 1) * 2 ^ (52 - L) := Nat.mul_lt_mul_of_pos_right l2 (Nat.pow_pos (by omega))
      rw [← Nat.pow_add, show L + 1 + (52 - L) = 53 by omega] at this
      have p : (2 : Nat) ^ 53 = 9007199254740992 := by decide
      simp only [Nat.pow_zero, Nat.one_mul, Nat.div_one]
      omega
    · have d1 : ((0 : Int) - ((L : Int) - 52)).toNat = 0 := by omega
      have d2 : (((L : Int) - 52) - 0).toNat = L - 52 := by omega
      rw [d1, d2, Nat.shiftLeft_zero, hL, show min (L - 52) (L + 2) = L - 52 by omega, Nat.shiftLeft_eq, Nat.one_mul]
      have : m / 2 ^ (L - 52) < 2 ^ 53 := by
        apply Nat.div_lt_of_lt_mul
        rw [← Nat.pow_add, show L - 52 + 53 = L + 1 by omega]
        exact l2
      have p : (2 : Nat) ^ 53 = 9007199254740992 := by decide
      omega
  have e6 : ((L : Int) - 52 - -1074).toNat = L + 1022 := by omega
  rw [e6]
  have hr : (L + 1022) * 4503599627370496 + k < 9218868437227405312 := by omega
  rw [Nat.min_eq_left (Nat.le_of_lt hr)]
  exact ⟨_, rfl, by omega, hr⟩
theorem of_zero : floatOfInt .f64 0 = 0 := by decide

theorem near_ok (s : Bool) (m : Nat) (p : Int) : ∃ r, Ieee.double.nearest s m p = Ieee.double.word s r ∧ r ≤ 9218868437227405312 := by
  have e4 : Ieee.double.infRung = 9218868437227405312 := by decide
  unfold Ieee.Format.nearest
  split
  · exact ⟨0, rfl, by omega⟩
  · exact ⟨_, rfl, by rw [e4]; exact Nat.min_le_right _ _⟩
/-- The quotient of two whole numbers, the second not 0: a float that is no NaN. -/
theorem div_ok {a b : Int} (ha : a.natAbs ≤ 9223372036854775808) (hb : b.natAbs ≤ 9223372036854775808) (b0 : b ≠ 0) :
    ∃ q, floatBits .quo .f64 (floatOfInt .f64 a) (floatOfInt .f64 b) = some q ∧ nanB q = false ∧ q < 18446744073709551616 := by
  show ∃ q, Ieee.double.div (floatOfInt .f64 a) (floatOfInt .f64 b) = some q ∧ _ ∧ _
  obtain ⟨r, e, r1, r2⟩ := of_int b0 hb
  have rb := read_big (x := Ieee.double.word (decide (b < 0)) r) (by rw [word_rng (by omega)]; omega) (by rw [word_rng (by omega)]; exact r2)
  have ra : ∃ s m i, Ieee.double.read (floatOfInt .f64 a) = .number s m i := by
    by_cases a0 : a = 0
    · subst a0; rw [of_zero]; exact ⟨_, _, _, read_small (by decide)⟩
    · obtain ⟨t, f, t1, t2⟩ := of_int a0 ha
      rw [f]; exact ⟨_, _, _, read_big (by rw [word_rng (by omega)]; omega) (by rw [word_rng (by omega)]; exact t2)⟩
  obtain ⟨s, m, i, ra⟩ := ra
  unfold Ieee.Format.div
  rw [e, rb, ra]
  unfold Ieee.Datum.quotient
  simp only
  rw [if_neg (by omega)]
  obtain ⟨q, f, hq⟩ := near_ok (s ^^ sgn (Ieee.double.word (decide (b < 0)) r)) (2 * (m <<< (Ieee.double.fractionBits + 2 + (4503599627370496 + rng (Ieee.double.word (decide (b < 0)) r) % 4503599627370496).log2 - m.log2) / (4503599627370496 + rng (Ieee.double.word (decide (b < 0)) r) % 4503599627370496)) + (m <<< (Ieee.double.fractionBits + 2 + (4503599627370496 + rng (Ieee.double.word (decide (b < 0)) r) % 4503599627370496).log2 - m.log2) % (4503599627370496 + rng (Ieee.double.word (decide (b < 0)) r) % 4503599627370496) != 0).toNat) (i - (-1074 + (rng (Ieee.double.word (decide (b < 0)) r) / 4503599627370496 - 1 : Nat)) - (Ieee.double.fractionBits + 2 + (4503599627370496 + rng (Ieee.double.word (decide (b < 0)) r) % 4503599627370496).log2 - m.log2 : Nat) - 1)
  exact ⟨_, rfl, by show nanB (Ieee.double.nearest _ _ _) = false; rw [f]; exact word_nan hq, by show Ieee.double.nearest _ _ _ < _; rw [f]; exact word_fits hq⟩
/-- A whole number that is not 0 by 0. -/
theorem div_inf {a : Int} (ha : a.natAbs ≤ 9223372036854775808) (a0 : a ≠ 0) :
    floatBits .quo .f64 (floatOfInt .f64 a) (floatOfInt .f64 0) = some (if a < 0 then 18442240474082181120 else 9218868437227405312) := by
  show Ieee.double.div (floatOfInt .f64 a) (floatOfInt .f64 0) = _
  obtain ⟨t, f, t1, t2⟩ := of_int a0 ha
  have ra := read_big (x := Ieee.double.word (decide (a < 0)) t) (by rw [word_rng (by omega)]; omega) (by rw [word_rng (by omega)]; exact t2)
  unfold Ieee.Format.div
  rw [f, ra, of_zero, read_small (x := 0) (by decide), word_sgn (by omega)]
  unfold Ieee.Datum.quotient
  simp only
  rw [if_pos (by decide), if_neg (by omega)]
  show some (Ieee.double.word (decide (a < 0) ^^ sgn 0) Ieee.double.infRung) = _
  have e4 : Ieee.double.infRung = 9218868437227405312 := by decide
  rw [e4, show sgn 0 = false by decide, Bool.xor_false, dbl_word]
  by_cases c : a < 0
  · rw [if_pos (by simpa using c), if_pos c]
  · rw [if_neg (by simpa using c), if_neg c]
theorem div_none : floatBits .quo .f64 (floatOfInt .f64 0) (floatOfInt .f64 0) = none := by decide
end Go.Proofs.Ytmagldelgnkkfaa
