/-
  Plain facts on floats of 64 bits as words: how they stand to each other, by their sign and their lower bits; no program is named here.
-/
import Derived.WalkKit
import Derived.Laws.Cover2
namespace Go.Proofs.Ytmagldelgnkkfaa

/-- The sign of a word, and what is below it. -/
def sgn (x : Nat) : Bool := x / 9223372036854775808 % 2 == 1
def rng (x : Nat) : Nat := x % 9223372036854775808
/-- Is it none? -/
def nanB (x : Nat) : Bool := decide (9218868437227405312 < rng x)
/-- A whole number for each word, in the order of the numbers; the two zeros have one. -/
def key (x : Nat) : Int := if sgn x = true then -(rng x : Int) else (rng x : Int)
/-- The rank that the document's answer gives. -/
def rank (x : Nat) : Nat := if nanB x = true then 0 else if sgn x = true then 18446744073709551615 - x else x + 9223372036854775808

/-- The size of a rung, in units of the least. -/
def val (r : Nat) : Nat := if r < 4503599627370496 then r else (4503599627370496 + r % 4503599627370496) * 2 ^ (r / 4503599627370496 - 1)
theorem val_succ (r : Nat) : val r < val (r + 1) := by
  unfold val
  by_cases h1 : r + 1 < 4503599627370496
  · rw [if_pos (by omega), if_pos h1]; omega
  · by_cases h2 : r < 4503599627370496
    · have e : r = 4503599627370495 := by omega
      subst e; decide
    · rw [if_neg h2, if_neg h1]
      obtain ⟨q, hq⟩ : ∃ q, r / 4503599627370496 = q + 1 := ⟨r / 4503599627370496 - 1, by omega⟩
      by_cases h3 : r % 4503599627370496 = 4503599627370495
      · have e1 : (r + 1) % 4503599627370496 = 0 := by omega
        have e2 : (r + 1) / 4503599627370496 = q + 2 := by omega
        rw [h3, e1, e2, hq, show q + 1 - 1 = q by omega, show q + 2 - 1 = q + 1 by omega, Nat.pow_succ]
        have := Nat.pow_pos (n := q) (show 0 < 2 by omega)
        omega
      · have e1 : (r + 1) % 4503599627370496 = r % 4503599627370496 + 1 := by omega
        have e2 : (r + 1) / 4503599627370496 = q + 1 := by omega
        rw [e1, e2, hq, show q + 1 - 1 = q by omega]
        exact Nat.mul_lt_mul_of_pos_right (by omega) (Nat.pow_pos (by omega))
theorem val_lt {r s : Nat} (h : r < s) : val r < val s := by
  induction s with
  | zero => omega
  | succ s ih =>
    by_cases e : r = s
    · subst e; exact val_succ r
    · exact Nat.lt_trans (ih (by omega)) (val_succ s)
theorem val_lt_iff (r s : Nat) : val r < val s ↔ r < s := by
  refine ⟨fun h => ?_, val_lt⟩
  apply Nat.not_le.1
  intro hc
  by_cases e : s = r
  · subst e; omega
  · have := val_lt (show s < r by omega); omega
theorem val_eq_iff (r s : Nat) : val r = val s ↔ r = s := by
  refine ⟨fun h => ?_, fun h => by rw [h]⟩
  have h1 := val_lt_iff r s
  have h2 := val_lt_iff s r
  omega

theorem read_small {x : Nat} (h : rng x < 4503599627370496) : Ieee.double.read x = .number (sgn x) (rng x) (-1074) := by
  unfold Ieee.Format.read
  have e1 : Ieee.double.signWeight = 9223372036854775808 := by decide
  have e2 : Ieee.double.binade = 4503599627370496 := by decide
  have e3 : Ieee.double.leastPlace = -1074 := by decide
  rw [e1, e2, e3]
  show (if rng x < 4503599627370496 then _ else _) = _
  rw [if_pos h]; rfl
theorem read_big {x : Nat} (h : ¬ rng x < 4503599627370496) (h' : rng x < 9218868437227405312) : Ieee.double.read x = .number (sgn x) (4503599627370496 + rng x % 4503599627370496) (-1074 + (rng x / 4503599627370496 - 1 : Nat)) := by
  unfold Ieee.Format.read
  have e1 : Ieee.double.signWeight = 9223372036854775808 := by decide
  have e2 : Ieee.double.binade = 4503599627370496 := by decide
  have e3 : Ieee.double.leastPlace = -1074 := by decide
  have e4 : Ieee.double.infRung = 9218868437227405312 := by decide
  rw [e1, e2, e3, e4]
  show (if rng x < 4503599627370496 then _ else if rng x < 9218868437227405312 then _ else _) = _
  rw [if_neg h, if_pos h']; rfl
theorem read_inf {x : Nat} (h : rng x = 9218868437227405312) : Ieee.double.read x = .infinity (sgn x) := by
  unfold Ieee.Format.read
  have e1 : Ieee.double.signWeight = 9223372036854775808 := by decide
  have e2 : Ieee.double.binade = 4503599627370496 := by decide
  have e4 : Ieee.double.infRung = 9218868437227405312 := by decide
  rw [e1, e2, e4]
  show (if rng x < 4503599627370496 then _ else if rng x < 9218868437227405312 then _ else if rng x = 9218868437227405312 then _ else _) = _
  rw [if_neg (by omega), if_neg (by omega), if_pos h]; rfl
theorem read_nan {x : Nat} (h : 9218868437227405312 < rng x) : Ieee.double.read x = .nan (sgn x) (rng x - 9218868437227405312) := by
  unfold Ieee.Format.read
  have e1 : Ieee.double.signWeight = 9223372036854775808 := by decide
  have e2 : Ieee.double.binade = 4503599627370496 := by decide
  have e4 : Ieee.double.infRung = 9218868437227405312 := by decide
  rw [e1, e2, e4]
  show (if rng x < 4503599627370496 then _ else if rng x < 9218868437227405312 then _ else if rng x = 9218868437227405312 then _ else _) = _
  rw [if_neg (by omega), if_neg (by omega), if_neg (by omega)]; rfl
/-- A number's word: its size is its rung's. -/
theorem read_num {x : Nat} (h : rng x < 9218868437227405312) : ∃ m a : Nat, Ieee.double.read x = .number (sgn x) m (-1074 + (a : Int)) ∧ m * 2 ^ a = val (rng x) := by
  by_cases h1 : rng x < 4503599627370496
  · exact ⟨rng x, 0, by rw [read_small h1]; rfl, by unfold val; rw [if_pos h1]; simp⟩
  · exact ⟨_, _, read_big h1 h, by unfold val; rw [if_neg h1]⟩

theorem compare_mul (x y : Int) (k : Nat) (hk : 0 < k) : compare (x * k) (y * k) = compare x y := by
  have hk' : (0 : Int) < k := by omega
  have h1 : x * k < y * k ↔ x < y := Int.mul_lt_mul_right hk'
  have h2 : x * k = y * k ↔ x = y := ⟨fun h => Int.eq_of_mul_eq_mul_right (by omega) h, fun h => by rw [h]⟩
  show compareOfLessAndEq (x * k) (y * k) = compareOfLessAndEq x y
  unfold compareOfLessAndEq
  simp only [h1, h2]
theorem signed_eq (s : Bool) (m a : Nat) : Ieee.signed s m a = (if s = true then -((m * 2 ^ a : Nat) : Int) else ((m * 2 ^ a : Nat) : Int)) := by
  unfold Ieee.signed; rw [Nat.shiftLeft_eq]
theorem signed_up (s : Bool) (m a c : Nat) : Ieee.signed s m (a + c) = Ieee.signed s m a * ((2 ^ c : Nat) : Int) := by
  rw [signed_eq, signed_eq]
  have e : (m * 2 ^ (a + c) : Nat) = m * 2 ^ a * 2 ^ c := by rw [Nat.pow_add, Nat.mul_assoc]
  rw [e, Int.natCast_mul (m * 2 ^ a)]
  cases s
  · simp only [Bool.false_eq_true, if_false]
  · simp only [if_true]; rw [Int.neg_mul]
theorem order_num (s t : Bool) (m n a b : Nat) : Ieee.Datum.order (.number s m (-1074 + (a : Int))) (.number t n (-1074 + (b : Int))) = some (compare (Ieee.signed s m a) (Ieee.signed t n b)) := by
  show some (compare (Ieee.signed s m (-1074 + (a : Int) - min (-1074 + (a : Int)) (-1074 + (b : Int))).toNat) (Ieee.signed t n (-1074 + (b : Int) - min (-1074 + (a : Int)) (-1074 + (b : Int))).toNat)) = _
  obtain ⟨c, hc⟩ : ∃ c, min a b = c := ⟨_, rfl⟩
  obtain ⟨a', ha⟩ : ∃ a', a = a' + c := ⟨a - c, by omega⟩
  obtain ⟨b', hb⟩ : ∃ b', b = b' + c := ⟨b - c, by omega⟩
  have e1 : (-1074 + (a : Int) - min (-1074 + (a : Int)) (-1074 + (b : Int))).toNat = a' := by omega
  have e2 : (-1074 + (b : Int) - min (-1074 + (a : Int)) (-1074 + (b : Int))).toNat = b' := by omega
  rw [e1, e2, ha, hb, signed_up s, signed_up t, compare_mul _ _ _ (Nat.pow_pos (by omega))]
/-- How two numbers of words stand to each other. -/
theorem cmp_val (s t : Bool) (r q : Nat) : compare (if s = true then -((val r : Nat) : Int) else ((val r : Nat) : Int)) (if t = true then -((val q : Nat) : Int) else ((val q : Nat) : Int)) = compare (if s = true then -(r : Int) else (r : Int)) (if t = true then -(q : Int) else (q : Int)) := by
  have h1 := val_lt_iff r q
  have h2 := val_lt_iff q r
  have h3 := val_eq_iff r q
  have z : val 0 = 0 := by decide
  have z1 := val_lt_iff 0 r
  have z2 := val_lt_iff 0 q
  rw [z] at z1 z2
  have key : ∀ x y x' y' : Int, (x < y ↔ x' < y') → (x = y ↔ x' = y') → compare x y = compare x' y' := by
    intro x y x' y' a b
    show compareOfLessAndEq x y = compareOfLessAndEq x' y'
    unfold compareOfLessAndEq
    simp only [a, b]
  cases s <;> cases t <;> simp only [if_true, Bool.false_eq_true, if_false] <;> apply key <;> omega
theorem rng_lt (x : Nat) : rng x < 9223372036854775808 := by unfold rng; omega
theorem order_key {x y : Nat} (hx : nanB x = false) (hy : nanB y = false) : Ieee.double.order x y = some (compare (key x) (key y)) := by
  unfold nanB at hx hy
  rw [decide_eq_false_iff_not] at hx hy
  unfold Ieee.Format.order key
  have lt : ∀ x y : Int, x < y → compare x y = .lt := fun x y h => by
    show compareOfLessAndEq x y = _
    unfold compareOfLessAndEq; rw [if_pos h]
  have gt : ∀ x y : Int, y < x → compare x y = .gt := fun x y h => by
    show compareOfLessAndEq x y = _
    unfold compareOfLessAndEq; rw [if_neg (by omega), if_neg (by omega)]
  have eq : ∀ x : Int, compare x x = .eq := fun x => by
    show compareOfLessAndEq x x = _
    unfold compareOfLessAndEq; rw [if_neg (by omega), if_pos rfl]
  by_cases h1 : rng x < 9218868437227405312
  · obtain ⟨m, a, e1, v1⟩ := read_num h1
    by_cases h2 : rng y < 9218868437227405312
    · obtain ⟨n, b, e2, v2⟩ := read_num h2
      rw [e1, e2, order_num, signed_eq, signed_eq, v1, v2, cmp_val]
    · have e2 := read_inf (x := y) (by omega)
      rw [e1, e2]
      show some (if sgn y = true then Ordering.gt else Ordering.lt) = _
      cases sgn y
      · simp only [Bool.false_eq_true, if_false]
        rw [lt]; split <;> omega
      · simp only [if_true]
        rw [gt]; split <;> omega
  · have e1 := read_inf (x := x) (by omega)
    by_cases h2 : rng y < 9218868437227405312
    · obtain ⟨n, b, e2, v2⟩ := read_num h2
      rw [e1, e2]
      show some (if sgn x = true then Ordering.lt else Ordering.gt) = _
      cases sgn x
      · simp only [Bool.false_eq_true, if_false]
        rw [gt]; split <;> omega
      · simp only [if_true]
        rw [lt]; split <;> omega
    · have e2 := read_inf (x := y) (by omega)
      rw [e1, e2]
      show some (compare (sgn y).toNat (sgn x).toNat) = _
      have ex : rng x = 9218868437227405312 := by omega
      have ey : rng y = 9218868437227405312 := by omega
      rw [ex, ey]
      cases sgn x <;> cases sgn y <;> rfl
theorem order_nan {x y : Nat} (h : nanB x = true ∨ nanB y = true) : Ieee.double.order x y = none := by
  unfold nanB at h
  unfold Ieee.Format.order
  by_cases hx : 9218868437227405312 < rng x
  · rw [read_nan hx]; rfl
  · have hy : 9218868437227405312 < rng y := by simpa [hx] using h
    rw [read_nan hy]
    cases Ieee.double.read x <;> rfl
/-- Less, as the language has it. -/
theorem lss_eq (x y : Nat) : (Ieee.double.order x y == some .lt) = (!nanB x && !nanB y && decide (key x < key y)) := by
  cases hx : nanB x
  · cases hy : nanB y
    · rw [order_key hx hy]
      show (some (compareOfLessAndEq (key x) (key y)) == some .lt) = _
      unfold compareOfLessAndEq
      by_cases h : key x < key y
      · rw [if_pos h, decide_eq_true h]; rfl
      · rw [if_neg h, decide_eq_false h]
        split <;> rfl
    · rw [order_nan (Or.inr hy)]; rfl
  · rw [order_nan (Or.inl hx)]; rfl
/-- Equal, as the language has it. -/
theorem eql_eq (x y : Nat) : (Ieee.double.order x y == some .eq) = (!nanB x && !nanB y && decide (key x = key y)) := by
  cases hx : nanB x
  · cases hy : nanB y
    · rw [order_key hx hy]
      show (some (compareOfLessAndEq (key x) (key y)) == some .eq) = _
      unfold compareOfLessAndEq
      by_cases h : key x < key y
      · rw [if_pos h, decide_eq_false (by omega)]; rfl
      · rw [if_neg h]
        by_cases e : key x = key y
        · rw [if_pos e, decide_eq_true e]; rfl
        · rw [if_neg e, decide_eq_false e]; rfl
    · rw [order_nan (Or.inr hy)]; rfl
  · rw [order_nan (Or.inl hx)]; rfl
theorem eql_self (x : Nat) : (Ieee.double.order x x == some .eq) = !nanB x := by
  rw [eql_eq, decide_eq_true rfl]; cases nanB x <;> rfl

/-- Rank and key: ahead is less, or -0 against +0. -/
theorem rank_lt {x y : Nat} (fx : x < 18446744073709551616) (fy : y < 18446744073709551616) (hx : nanB x = false) (hy : nanB y = false) : rank x < rank y ↔ key x < key y ∨ (key x = key y ∧ sgn x = true ∧ sgn y = false) := by
  unfold rank key
  rw [if_neg (show ¬ nanB x = true by rw [hx]; simp), if_neg (show ¬ nanB y = true by rw [hy]; simp)]
  have ex : sgn x = decide (9223372036854775808 ≤ x) := by
    unfold sgn; rw [Bool.eq_iff_iff, beq_iff_eq, decide_eq_true_iff]; omega
  have ey : sgn y = decide (9223372036854775808 ≤ y) := by
    unfold sgn; rw [Bool.eq_iff_iff, beq_iff_eq, decide_eq_true_iff]; omega
  rw [ex, ey]
  unfold rng
  by_cases h1 : 9223372036854775808 ≤ x <;> by_cases h2 : 9223372036854775808 ≤ y
  all_goals
    simp only [h1, h2, decide_true, decide_false, if_true, Bool.false_eq_true, Bool.true_eq_false, if_false, and_true, and_false, or_false]
    omega
theorem rank_pos {x : Nat} (fx : x < 18446744073709551616) (hx : nanB x = false) : 0 < rank x := by
  have h := hx
  unfold nanB rng at h
  rw [decide_eq_false_iff_not] at h
  unfold rank
  rw [if_neg (by rw [hx]; simp)]
  have ex : sgn x = decide (9223372036854775808 ≤ x) := by
    unfold sgn; rw [Bool.eq_iff_iff, beq_iff_eq, decide_eq_true_iff]; omega
  rw [ex]
  by_cases h1 : 9223372036854775808 ≤ x
  · rw [if_pos (decide_eq_true h1)]; omega
  · rw [if_neg (by simp [h1])]; omega
theorem rank_nan {x : Nat} (hx : nanB x = true) : rank x = 0 := by unfold rank; rw [if_pos hx]
theorem rank_fits {x : Nat} (fx : x < 18446744073709551616) : rank x < 18446744073709551616 := by
  unfold rank
  have ex : sgn x = decide (9223372036854775808 ≤ x) := by
    unfold sgn; rw [Bool.eq_iff_iff, beq_iff_eq, decide_eq_true_iff]; omega
  rw [ex]
  split
  · omega
  · by_cases h1 : 9223372036854775808 ≤ x
    · rw [if_pos (decide_eq_true h1)]; omega
    · rw [if_neg (by simp [h1])]; omega
theorem rank_same {x y : Nat} (fx : x < 18446744073709551616) (fy : y < 18446744073709551616) (hx : nanB x = false) (h : rank x = rank y) : x = y := by
  have hy : nanB y = false := by
    cases e : nanB y
    · rfl
    · have := rank_pos fx hx
      rw [rank_nan e] at h; omega
  unfold rank at h
  rw [if_neg (show ¬ nanB x = true by rw [hx]; simp), if_neg (show ¬ nanB y = true by rw [hy]; simp)] at h
  have ex : sgn x = decide (9223372036854775808 ≤ x) := by
    unfold sgn; rw [Bool.eq_iff_iff, beq_iff_eq, decide_eq_true_iff]; omega
  have ey : sgn y = decide (9223372036854775808 ≤ y) := by
    unfold sgn; rw [Bool.eq_iff_iff, beq_iff_eq, decide_eq_true_iff]; omega
  rw [ex, ey] at h
  by_cases h1 : 9223372036854775808 ≤ x <;> by_cases h2 : 9223372036854775808 ≤ y
  all_goals
    simp only [h1, h2, decide_true, decide_false, if_true, Bool.false_eq_true, if_false] at h
    omega
end Go.Proofs.Ytmagldelgnkkfaa
