/-
  Plain facts: the lowest bit of a row, rows that are changed whole, and the ways that are found number by number.
-/
import Derived.Test.YtcfegclnkheebaaDoorL
import Derived.Test.YtcfegclnkheebaaDoorW
import Derived.Lib.TrailingZeros
import Derived.Laws.Bits64b
namespace Go.Proofs.YtcfegclnkheebaaDoor

theorem low_spec {x : Nat} (h0 : x ≠ 0) (h : x < 18446744073709551616) :
    Lib.ctz 64 x < 64 ∧ x.testBit (Lib.ctz 64 x) = true ∧ (∀ j, j < Lib.ctz 64 x → x.testBit j = false) ∧ ∀ j, (x &&& (x - 1)).testBit j = (x.testBit j && decide (j ≠ Lib.ctz 64 x)) := by
  obtain ⟨m, hm, hk⟩ := Lib.ctzFrom_spec 64 x (by omega) h
  have e : Lib.ctz 64 x = Lib.ctzFrom 64 x := by simp [Lib.ctz, h0]
  rw [e]
  generalize Lib.ctzFrom 64 x = k at hm hk
  subst hm
  have p := pow_pos2 k
  have xb : ∀ j, (2 ^ k * (2 * m + 1)).testBit j = (decide (k ≤ j) && (2 * m + 1).testBit (j - k)) := fun j => by
    rw [Nat.testBit_two_pow_mul]
  have e1 : 2 ^ k * (2 * m + 1) - 1 = 2 ^ k * (2 * m) + (2 ^ k - 1) := by rw [Nat.mul_add, Nat.mul_one]; omega
  have yb : ∀ j, (2 ^ k * (2 * m + 1) - 1).testBit j = if j < k then (2 ^ k - 1).testBit j else (2 * m).testBit (j - k) := fun j => by
    rw [e1, Nat.testBit_two_pow_mul_add _ (by omega)]
  refine ⟨hk, ?_, fun j hj => ?_, fun j => ?_⟩
  · rw [xb, Nat.sub_self]; simp
  · rw [xb, decide_eq_false (by omega)]; rfl
  · rw [Nat.testBit_and, xb, yb]
    by_cases h1 : j < k
    · rw [decide_eq_false (show ¬ k ≤ j by omega)]; rfl
    · rw [if_neg h1, decide_eq_true (show k ≤ j by omega)]
      by_cases h2 : j = k
      · subst h2; simp
      · obtain ⟨d, hd⟩ : ∃ d, j - k = d + 1 := ⟨j - k - 1, by omega⟩
        rw [hd, Nat.testBit_add_one, Nat.testBit_add_one]
        have q1 : (2 * m + 1) / 2 = m := by omega
        have q2 : 2 * m / 2 = m := by omega
        rw [q1, q2, decide_eq_true h2]; simp
/-- A row without the bits of another. -/
def clr (x y : Nat) : Nat := x &&& (18446744073709551615 ^^^ y)
theorem clr_bit {x y : Nat} (h : x < 18446744073709551616) (j : Nat) : (clr x y).testBit j = (x.testBit j && !y.testBit j) := by
  unfold clr
  rw [Nat.testBit_and, Nat.testBit_xor]
  have e : (18446744073709551615 : Nat) = 2 ^ 64 - 1 := by decide
  rw [e, Nat.testBit_two_pow_sub_one]
  by_cases hj : j < 64
  · rw [decide_eq_true hj]; cases y.testBit j <;> simp
  · have : x.testBit j = false := Nat.testBit_lt_two_pow (Nat.lt_of_lt_of_le h (by
      have : (2 : Nat) ^ 64 ≤ 2 ^ j := Nat.pow_le_pow_right (by omega) (by omega)
      simpa using this))
    rw [this]; simp
theorem clr_lt {x y : Nat} (h : x < 18446744073709551616) : clr x y < 18446744073709551616 := by
  unfold clr
  exact Nat.lt_of_le_of_lt Nat.and_le_left h
theorem or_lt {x y : Nat} (h : x < 18446744073709551616) (h' : y < 18446744073709551616) : x ||| y < 18446744073709551616 := Nat.or_lt_two_pow (n := 64) h h'
theorem and_lt {x y : Nat} (h : x < 18446744073709551616) : x &&& y < 18446744073709551616 := Nat.lt_of_le_of_lt Nat.and_le_left h
theorem bits_clr (a b : Nat) (ha : a < 18446744073709551616) (hb : b < 18446744073709551616) : bits .andNot .u64 (a : Int) (b : Int) = ((clr a b : Nat) : Int) := by
  have h1 : (BitVec.ofInt 64 (a : Int)).toNat = a := by
    rw [BitVec.ofInt_natCast, BitVec.toNat_ofNat]; exact Nat.mod_eq_of_lt (by omega)
  have h2 : (BitVec.ofInt 64 (b : Int)).toNat = b := by
    rw [BitVec.ofInt_natCast, BitVec.toNat_ofNat]; exact Nat.mod_eq_of_lt (by omega)
  show IntKind.u64.wrap ((BitVec.ofInt 64 (a : Int) &&& ~~~ BitVec.ofInt 64 (b : Int)).toNat : Int) = _
  have e : (BitVec.ofInt 64 (a : Int) &&& ~~~ BitVec.ofInt 64 (b : Int)).toNat = clr a b := by
    apply Nat.eq_of_testBit_eq
    intro j
    rw [clr_bit ha, BitVec.testBit_toNat, BitVec.getLsbD_and, BitVec.getLsbD_not, ← BitVec.testBit_toNat, ← BitVec.testBit_toNat, h1, h2]
    by_cases hj : j < 64
    · rw [decide_eq_true hj]; rfl
    · have : a.testBit j = false := Nat.testBit_lt_two_pow (Nat.lt_of_lt_of_le ha (by
        have : (2 : Nat) ^ 64 ≤ 2 ^ j := Nat.pow_le_pow_right (by omega) (by omega)
        simpa using this))
      rw [this]; rfl
  rw [e]
  exact nat_u64 (clr_lt ha)
/-- The bits below n. -/
def msk (n : Nat) : Nat := 2 ^ n - 1
theorem msk_bit (n j : Nat) : (msk n).testBit j = decide (j < n) := Nat.testBit_two_pow_sub_one ..
theorem msk_lt {n : Nat} (h : n ≤ 64) : msk n < 18446744073709551616 := by
  have : (2 : Nat) ^ n ≤ 2 ^ 64 := Nat.pow_le_pow_right (by omega) h
  have := pow_pos2 n
  unfold msk; omega
theorem zero_bits {x : Nat} (h : ∀ j, x.testBit j = false) : x = 0 := Nat.eq_of_testBit_eq fun j => by rw [h j]; simp
theorem nz_and {x k : Nat} : (x &&& 2 ^ k ≠ 0) ↔ x.testBit k = true := by
  constructor
  · intro h
    cases e : x.testBit k
    · exfalso; apply h
      apply zero_bits
      intro j
      rw [Nat.testBit_and, Nat.testBit_two_pow]
      by_cases hj : k = j
      · subst hj; rw [e]; rfl
      · rw [decide_eq_false hj]; simp
    · rfl
  · intro h e
    have : (x &&& 2 ^ k).testBit k = true := by rw [Nat.testBit_and, h, Nat.testBit_two_pow]; simp
    rw [e] at this; simp at this
theorem getD_set {zs : List Nat} {i z : Nat} (hi : i < zs.length) (a : Nat) : (zs.set i z).getD a 0 = if a = i then z else zs.getD a 0 := by
  by_cases e : a = i
  · subst e
    rw [List.getD_eq_getElem?_getD, List.getElem?_set_self hi, if_pos rfl]; rfl
  · rw [List.getD_eq_getElem?_getD, List.getElem?_set_ne (by omega), ← List.getD_eq_getElem?_getD, if_neg e]
theorem Bits.row {n : Nat} {G : Nat → Nat → Bool} {zs : List Nat} {i z : Nat} (K : Nat → Bool) (h : Bits n G zs) (hi : i < n) (hz : z < 18446744073709551616) (hk : ∀ b, z.testBit b = (decide (b < n) && K b)) : Bits n (fun a b => if a = i then K b else G a b) (zs.set i z) := by
  have hl := h.1
  refine ⟨by rw [List.length_set]; exact hl, fun a => ?_, fun a b => ?_⟩
  · rw [getD_set (by omega)]
    split
    · exact hz
    · exact h.2.1 a
  · rw [getD_set (by omega)]
    show _ = (decide (a < n) && decide (b < n) && (if a = i then K b else G a b))
    by_cases e : a = i
    · subst e
      rw [if_pos rfl, if_pos rfl, hk b, decide_eq_true hi]; rfl
    · rw [if_neg e, if_neg e, h.2.2 a b]
theorem Bits.read {n : Nat} {G : Nat → Nat → Bool} {zs : List Nat} {i : Nat} (h : Bits n G zs) (hi : i < n) (b : Nat) : (zs.getD i 0).testBit b = (decide (b < n) && G i b) := by
  rw [h.2.2 i b, decide_eq_true hi]; rfl

/-- What is found of the ways when all numbers below k were gone through. -/
structure Thru (R : Nat → Nat → Bool) (n : Nat) (G : Nat → Nat → Bool) (k : Nat) : Prop where
  sound : ∀ a b, a < n → b < n → G a b = true → Way R n a b
  init : ∀ a b, a < n → b < n → R a b = true → G a b = true
  closed : ∀ j, j < k → ∀ a b, a < n → b < n → G a j = true → G j b = true → G a b = true
theorem Thru.first {R : Nat → Nat → Bool} {n : Nat} : Thru R n R 0 := ⟨fun _ _ _ _ h => Way.one h, fun _ _ _ _ h => h, fun j h => by omega⟩
/-- One number more: rows ahead of i are done. -/
def thruG (G : Nat → Nat → Bool) (k i a b : Nat) : Bool := G a b || (decide (a < i) && (G a k && G k b))
theorem thruG_zero (G : Nat → Nat → Bool) (k a b : Nat) : thruG G k 0 a b = G a b := by simp [thruG]
theorem thruG_own (G : Nat → Nat → Bool) (k i b : Nat) : thruG G k i k b = G k b := by
  unfold thruG
  cases G k b <;> simp
theorem thruG_row (G : Nat → Nat → Bool) (k i b : Nat) : thruG G k i i b = G i b := by simp [thruG]
theorem thruG_yes {G : Nat → Nat → Bool} {k i : Nat} (h : G i k = true) (a b : Nat) : (if a = i then G i b || G k b else thruG G k i a b) = thruG G k (i + 1) a b := by
  by_cases e : a = i
  · subst e
    rw [if_pos rfl]; unfold thruG; rw [decide_eq_true (show a < a + 1 by omega), h]; simp
  · rw [if_neg e]; unfold thruG
    have : decide (a < i + 1) = decide (a < i) := by rw [decide_eq_decide]; omega
    rw [this]
theorem thruG_no {G : Nat → Nat → Bool} {k i : Nat} (h : G i k = false) (a b : Nat) : thruG G k i a b = thruG G k (i + 1) a b := by
  by_cases e : a = i
  · subst e
    unfold thruG; rw [h]; simp
  · unfold thruG
    have : decide (a < i + 1) = decide (a < i) := by rw [decide_eq_decide]; omega
    rw [this]
theorem Thru.next {R : Nat → Nat → Bool} {n k : Nat} {G : Nat → Nat → Bool} (h : Thru R n G k) (hk : k < n) : Thru R n (thruG G k n) (k + 1) := by
  have e : ∀ a b, a < n → (thruG G k n a b = true ↔ G a b = true ∨ (G a k = true ∧ G k b = true)) := fun a b ha => by
    unfold thruG; rw [decide_eq_true ha]; simp
  refine ⟨fun a b ha hb hg => ?_, fun a b ha hb hr => (e a b ha).2 (Or.inl (h.init a b ha hb hr)), fun j hj a b ha hb h1 h2 => ?_⟩
  · rcases (e a b ha).1 hg with hg | ⟨h1, h2⟩
    · exact h.sound a b ha hb hg
    · exact (h.sound a k ha hk h1).trans hk (h.sound k b hk hb h2)
  · have hjn : j < n := by omega
    rw [e a b ha]
    rw [e a j ha] at h1
    rw [e j b hjn] at h2
    by_cases ej : j = k
    · subst ej
      have h1' : G a j = true := by rcases h1 with h1 | h1; exact h1; exact h1.1
      have h2' : G j b = true := by rcases h2 with h2 | h2; exact h2; exact h2.2
      exact Or.inr ⟨h1', h2'⟩
    · have hjk : j < k := by omega
      rcases h1 with h1 | ⟨h1, h1'⟩
      · rcases h2 with h2 | ⟨h2, h2'⟩
        · exact Or.inl (h.closed j hjk a b ha hb h1 h2)
        · exact Or.inr ⟨h.closed j hjk a k ha hk h1 h2, h2'⟩
      · rcases h2 with h2 | ⟨h2, h2'⟩
        · exact Or.inr ⟨h1, h.closed j hjk k b hk hb h1' h2⟩
        · exact Or.inr ⟨h1, h2'⟩
theorem Thru.congr {R : Nat → Nat → Bool} {n k : Nat} {G G' : Nat → Nat → Bool} (h : Thru R n G k) (hk : k ≤ n) (e : ∀ a b, a < n → b < n → G a b = G' a b) : Thru R n G' k :=
  ⟨fun a b ha hb hg => h.sound a b ha hb (by rw [e a b ha hb]; exact hg), fun a b ha hb hr => by rw [← e a b ha hb]; exact h.init a b ha hb hr,
   fun j hj a b ha hb h1 h2 => by rw [← e a b ha hb]; exact h.closed j hj a b ha hb (by rw [e a j ha (by omega)]; exact h1) (by rw [e j b (by omega) hb]; exact h2)⟩
theorem Thru.fin {R : Nat → Nat → Bool} {n : Nat} {G : Nat → Nat → Bool} (hR : ∀ a b, R a b = true → b < n) (h : Thru R n G n) (a b : Nat) (ha : a < n) (hb : b < n) : G a b = true ↔ Way R n a b := by
  refine ⟨h.sound a b ha hb, fun hw => ?_⟩
  exact (hw.ind (fun x => x < n ∧ G a x = true) (fun x hr => ⟨hR _ _ hr, h.init a x ha (hR _ _ hr) hr⟩) (fun x y hx hp hr =>
    ⟨hR _ _ hr, h.closed x hx a y ha (hR _ _ hr) hp.2 (h.init x y hx (hR _ _ hr) hr)⟩)).2
/-- Of a row of n there is left what stands from m on. -/
structure Left (n : Nat) (K : Nat → Bool) (m x : Nat) : Prop where
  le : m ≤ n
  lt : x < 18446744073709551616
  bit : ∀ j, x.testBit j = (decide (m ≤ j) && (decide (j < n) && K j))
theorem Left.next {n m x : Nat} {K : Nat → Bool} (h : Left n K m x) (hx : x ≠ 0) :
    m ≤ Lib.ctz 64 x ∧ Lib.ctz 64 x < n ∧ K (Lib.ctz 64 x) = true ∧ (∀ j, m ≤ j → j < Lib.ctz 64 x → K j = false) ∧ Left n K (Lib.ctz 64 x + 1) (x &&& (x - 1)) := by
  obtain ⟨_, h1, h2, h3⟩ := low_spec hx h.lt
  generalize Lib.ctz 64 x = t at h1 h2 h3
  have hb := h.bit
  rw [hb t] at h1
  simp only [Bool.and_eq_true, decide_eq_true_eq] at h1
  obtain ⟨a, b, c⟩ := h1
  have no : ∀ j, m ≤ j → j < t → K j = false := fun j hj ht => by
    have := h2 j ht
    rw [hb j, decide_eq_true hj, decide_eq_true (show j < n by omega)] at this
    simpa using this
  refine ⟨a, b, c, no, by omega, and_lt h.lt, fun j => ?_⟩
  rw [h3 j, hb j]
  by_cases e : j = t
  · subst e
    rw [decide_eq_false (show ¬ j + 1 ≤ j by omega)]; simp
  · rw [decide_eq_true (show j ≠ t from e), Bool.and_true]
    by_cases h4 : j < t
    · rw [decide_eq_false (show ¬ t + 1 ≤ j by omega)]
      by_cases h5 : m ≤ j
      · rw [no j h5 h4]; simp
      · rw [decide_eq_false h5]
    · rw [decide_eq_true (show t + 1 ≤ j by omega), decide_eq_true (show m ≤ j by omega)]
theorem Left.done {n m : Nat} {K : Nat → Bool} (h : Left n K m 0) (j : Nat) (h1 : m ≤ j) (h2 : j < n) : K j = false := by
  have := h.bit j
  rw [decide_eq_true h1, decide_eq_true h2] at this
  simpa using this.symm
theorem viaB_skip {A B : Nat → Nat → Bool} {m t a b : Nat} (h : m ≤ t) (hA : ∀ j, m ≤ j → j < t → A a j = false) : viaB A B t a b = viaB A B m a b := by
  rw [Bool.eq_iff_iff, viaB_iff, viaB_iff]
  constructor
  · rintro ⟨j, h1, h2, h3⟩
    refine ⟨j, ?_, h2, h3⟩
    apply Nat.not_le.1
    intro hc
    rw [hA j hc h1] at h2; simp at h2
  · rintro ⟨j, h1, h2, h3⟩
    exact ⟨j, by omega, h2, h3⟩
end Go.Proofs.YtcfegclnkheebaaDoor
