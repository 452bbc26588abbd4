/-
  Plain facts on rows of bits; no program is named here.
-/
import Derived.WalkKit
namespace Go.Proofs.YtcfegclnkheebaaDoor

theorem pow_lt64 {k : Nat} (h : k < 64) : (2 : Nat) ^ k < 18446744073709551616 := by
  have : (2 : Nat) ^ k < 2 ^ 64 := Nat.pow_lt_pow_right (by omega) h
  omega
theorem pow_cast (k : Nat) : ((2 ^ k : Nat) : Int) = (2 : Int) ^ k := by simp
theorem pow_pos2 (k : Nat) : 0 < (2 : Nat) ^ k := Nat.pow_pos (by omega)
theorem u64_in {x : Int} (h1 : 0 ≤ x) (h2 : x < 18446744073709551616) : IntKind.u64.wrap x = x := by
  rw [IntKind.wrap_u64]; omega
theorem nat_u64 {x : Nat} (h : x < 18446744073709551616) : IntKind.u64.wrap (x : Int) = (x : Int) := u64_in (Int.natCast_nonneg _) (by omega)
theorem pow_in {k : Nat} (h : k < 64) : IntKind.u64.wrap ((2 : Int) ^ k) = (2 : Int) ^ k := by
  rw [← pow_cast]; exact nat_u64 (pow_lt64 h)
theorem pow_ne (k : Nat) : ¬ (2 : Int) ^ k = 0 := by
  rw [← pow_cast]
  exact Int.natCast_ne_zero.2 (Nat.ne_of_gt (pow_pos2 k))
theorem div_in {z k : Nat} (hz : z < 18446744073709551616) : IntKind.u64.wrap ((z : Int) / (2 : Int) ^ k) = (z : Int) / (2 : Int) ^ k := by
  rw [← pow_cast, ← Int.natCast_ediv]
  exact nat_u64 (Nat.lt_of_le_of_lt (Nat.div_le_self _ _) hz)
theorem mod_two (q : Nat) : ((q : Int).tmod 2 == 1) = decide (q % 2 = 1) := by
  rw [Int.tmod_eq_emod_of_nonneg (Int.natCast_nonneg _), Bool.eq_iff_iff, beq_iff_eq, decide_eq_true_iff]; omega
theorem mod_two' (q : Nat) : ((q : Int) % 2 == 1) = decide (q % 2 = 1) := by
  rw [Bool.eq_iff_iff, beq_iff_eq, decide_eq_true_iff]; omega
theorem bit_eq (z k : Nat) : (((z : Int) / (2 : Int) ^ k).tmod 2 == 1) = z.testBit k := by
  rw [← pow_cast, ← Int.natCast_ediv, Nat.testBit_eq_decide_div_mod_eq]; exact mod_two _
theorem bit_eq' (z k : Nat) : (((z : Int) / (2 : Int) ^ k) % 2 == 1) = z.testBit k := by
  rw [← pow_cast, ← Int.natCast_ediv, Nat.testBit_eq_decide_div_mod_eq]; exact mod_two' _

/-- Does i stand to k in the rows zs? -/
def hasB (zs : List Nat) (i k : Int) : Bool := decide (0 ≤ i) && decide (i < (min zs.length 64 : Nat)) && decide (0 ≤ k) && decide (k < (min zs.length 64 : Nat)) && (zs.getD i.toNat 0).testBit k.toNat
theorem hasB_in {zs : List Nat} {i k : Nat} (h1 : i < min zs.length 64) (h2 : k < min zs.length 64) : hasB zs i k = (zs.getD i 0).testBit k := by
  have a : (i : Int) < ((min zs.length 64 : Nat) : Int) := by omega
  have b : (k : Int) < ((min zs.length 64 : Nat) : Int) := by omega
  unfold hasB
  rw [decide_eq_true (show (0 : Int) ≤ (i : Int) by omega), decide_eq_true a, decide_eq_true (show (0 : Int) ≤ (k : Int) by omega), decide_eq_true b]
  simp
theorem hasB_out {zs : List Nat} {i k : Int} (h : i < 0 ∨ ((min zs.length 64 : Nat) : Int) ≤ i ∨ k < 0 ∨ ((min zs.length 64 : Nat) : Int) ≤ k) : hasB zs i k = false := by
  unfold hasB
  rcases h with h | h | h | h
  · rw [decide_eq_false (by omega)]; simp
  · rw [decide_eq_false (show ¬ i < ((min zs.length 64 : Nat) : Int) by omega)]; simp
  · rw [decide_eq_false (show ¬ 0 ≤ k by omega)]; simp
  · rw [decide_eq_false (show ¬ k < ((min zs.length 64 : Nat) : Int) by omega)]; simp

theorem add_bit {z k : Nat} (h : z.testBit k = false) (j : Nat) : (z + 2 ^ k).testBit j = (decide (j = k) || z.testBit j) := by
  by_cases h1 : j = k
  · subst h1
    rw [Nat.add_comm, Nat.testBit_two_pow_add_eq, h]; simp
  · by_cases h2 : j < k
    · rw [Nat.add_comm, Nat.testBit_two_pow_add_gt h2]; simp [h1]
    · have hb : z % 2 ^ k < 2 ^ k := Nat.mod_lt _ (pow_pos2 k)
      have e : z = 2 ^ k * (z / 2 ^ k) + z % 2 ^ k := (Nat.div_add_mod _ _).symm
      have e2 : z + 2 ^ k = 2 ^ k * (z / 2 ^ k + 1) + z % 2 ^ k := by rw [Nat.mul_add]; omega
      have hq : (z / 2 ^ k) % 2 = 0 := by
        rw [Nat.testBit_eq_decide_div_mod_eq, decide_eq_false_iff_not] at h; omega
      have l : (z + 2 ^ k).testBit j = (z / 2 ^ k + 1).testBit (j - k) := by
        rw [e2, Nat.testBit_two_pow_mul_add _ hb, if_neg h2]
      have r : z.testBit j = (z / 2 ^ k).testBit (j - k) := by
        conv => lhs; rw [e]
        rw [Nat.testBit_two_pow_mul_add _ hb, if_neg h2]
      rw [l, r]
      obtain ⟨m, hm⟩ : ∃ m, j - k = m + 1 := ⟨j - k - 1, by omega⟩
      rw [hm, Nat.testBit_add_one, Nat.testBit_add_one]
      have : (z / 2 ^ k + 1) / 2 = z / 2 ^ k / 2 := by omega
      rw [this]; simp [h1]
theorem add_or {z k : Nat} (h : z.testBit k = false) : z + 2 ^ k = z ||| 2 ^ k := by
  apply Nat.eq_of_testBit_eq
  intro j
  rw [add_bit h, Nat.testBit_or, Nat.testBit_two_pow]
  by_cases e : j = k
  · simp [e]
  · simp [e, show ¬ k = j by omega]
theorem add_lt {z k : Nat} (h : z.testBit k = false) (hz : z < 18446744073709551616) (hk : k < 64) : z + 2 ^ k < 18446744073709551616 := by
  rw [add_or h]
  exact Nat.or_lt_two_pow (n := 64) hz (pow_lt64 hk)

/-- i stands to k, too. -/
def putL (zs : List Nat) (i k : Nat) : List Nat := if (zs.getD i 0).testBit k = true then zs else zs.set i (zs.getD i 0 + 2 ^ k)
theorem putL_len (zs : List Nat) (i k : Nat) : (putL zs i k).length = zs.length := by unfold putL; split <;> simp
theorem putL_bit {zs : List Nat} {i k : Nat} (hi : i < zs.length) (a b : Nat) : ((putL zs i k).getD a 0).testBit b = (decide (a = i ∧ b = k) || (zs.getD a 0).testBit b) := by
  unfold putL
  split
  · rename_i h
    by_cases e : a = i ∧ b = k
    · obtain ⟨rfl, rfl⟩ := e; rw [h, decide_eq_true ⟨rfl, rfl⟩]; rfl
    · simp [e]
  · rename_i h
    by_cases ea : a = i
    · subst ea
      have : ((zs.set a (zs.getD a 0 + 2 ^ k)).getD a 0) = zs.getD a 0 + 2 ^ k := by
        rw [List.getD_eq_getElem?_getD, List.getElem?_set_self hi]; rfl
      rw [this, add_bit (by simpa using h)]; simp
    · have : ((zs.set i (zs.getD i 0 + 2 ^ k)).getD a 0) = zs.getD a 0 := by
        rw [List.getD_eq_getElem?_getD, List.getElem?_set_ne (by omega), ← List.getD_eq_getElem?_getD]
      rw [this]; simp [ea]
/-- All rows are numbers of 64 bits. -/
def Fits (zs : List Nat) : Prop := ∀ i, zs.getD i 0 < 18446744073709551616
theorem putL_fits {zs : List Nat} {i k : Nat} (h : Fits zs) (hk : k < 64) : Fits (putL zs i k) := by
  unfold putL
  split
  · exact h
  · rename_i hb
    intro a
    by_cases ea : a = i
    · subst ea
      by_cases hi : a < zs.length
      · rw [List.getD_eq_getElem?_getD, List.getElem?_set_self hi]
        exact add_lt (by simpa using hb) (h a) hk
      · rw [List.getD_eq_getElem?_getD, List.getElem?_eq_none (by simpa using hi)]; simp
    · rw [List.getD_eq_getElem?_getD, List.getElem?_set_ne (by omega), ← List.getD_eq_getElem?_getD]; exact h a
end Go.Proofs.YtcfegclnkheebaaDoor
