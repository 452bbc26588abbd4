/-
  Plain facts on relations as rows of bits: what is put together bit by bit.
-/
import Derived.Test.YtcfegclnkheebaaDoorM
namespace Go.Proofs.YtcfegclnkheebaaDoor

/-- The rows zs, n of them, have just the bits of G. -/
def Bits (n : Nat) (G : Nat → Nat → Bool) (zs : List Nat) : Prop :=
  zs.length = n ∧ Fits zs ∧ ∀ a b, (zs.getD a 0).testBit b = (decide (a < n) && decide (b < n) && G a b)
theorem Bits.zero (n : Nat) : Bits n (fun _ _ => false) (List.replicate n 0) := by
  refine ⟨by simp, fun i => ?_, fun a b => ?_⟩
  · by_cases h : i < n <;> simp [h]
  · by_cases h : a < n <;> simp [h]
theorem Bits.congr {n : Nat} {G G' : Nat → Nat → Bool} {zs : List Nat} (h : Bits n G zs) (e : ∀ a b, a < n → b < n → G a b = G' a b) : Bits n G' zs := by
  refine ⟨h.1, h.2.1, fun a b => ?_⟩
  rw [h.2.2 a b]
  by_cases h1 : a < n
  · by_cases h2 : b < n
    · rw [e a b h1 h2]
    · simp [h2]
  · simp [h1]
theorem Bits.put {n : Nat} {G : Nat → Nat → Bool} {zs : List Nat} {i k : Nat} (h : Bits n G zs) (hi : i < n) (hk : k < n) (hn : n ≤ 64) : Bits n (fun a b => G a b || decide (a = i ∧ b = k)) (putL zs i k) := by
  refine ⟨(putL_len _ _ _).trans h.1, putL_fits h.2.1 (by omega), fun a b => ?_⟩
  rw [putL_bit (by rw [h.1]; exact hi), h.2.2 a b]
  by_cases e : a = i ∧ b = k
  · obtain ⟨rfl, rfl⟩ := e; simp [hi, hk]
  · simp [e]
theorem Bits.same {n : Nat} {G : Nat → Nat → Bool} {zs ys : List Nat} (h : Bits n G zs) (h' : Bits n G ys) : zs = ys := by
  apply List.ext_getElem (by rw [h.1, h'.1])
  intro i h1 h2
  have e1 : zs.getD i 0 = zs[i] := by simp [h1]
  have e2 : ys.getD i 0 = ys[i] := by simp [h2]
  rw [← e1, ← e2]
  apply Nat.eq_of_testBit_eq
  intro b
  rw [h.2.2 i b, h'.2.2 i b]
theorem Bits.has {n : Nat} {G : Nat → Nat → Bool} {zs : List Nat} (h : Bits n G zs) (hn : n ≤ 64) (i k : Nat) : hasB zs i k = (decide (i < n) && decide (k < n) && G i k) := by
  have hl := h.1
  by_cases h1 : i < n
  · by_cases h2 : k < n
    · rw [hasB_in (by omega) (by omega), h.2.2]
    · rw [hasB_out (by omega)]; simp [h2]
  · rw [hasB_out (by omega)]; simp [h1]
/-- What any rows say, as bits. -/
def sz (zs : List Nat) : Nat := min zs.length 64
theorem sz_le (zs : List Nat) : sz zs ≤ 64 := by unfold sz; omega
theorem hasB_lt {zs : List Nat} {i k : Nat} (h : hasB zs i k = true) : i < sz zs ∧ k < sz zs := by
  by_cases ho : ((i : Int) < 0 ∨ ((min zs.length 64 : Nat) : Int) ≤ i ∨ (k : Int) < 0 ∨ ((min zs.length 64 : Nat) : Int) ≤ k)
  · rw [hasB_out ho] at h; simp at h
  · unfold sz; omega
/-- Rows ahead of i whole, of row i the bits ahead of k. -/
def upto (F : Nat → Nat → Bool) (i k a b : Nat) : Bool := (decide (a < i) || decide (a = i ∧ b < k)) && F a b
theorem Bits.first {n : Nat} {zs : List Nat} (F : Nat → Nat → Bool) (h : Bits n (fun _ _ => false) zs) : Bits n (upto F 0 0) zs :=
  h.congr fun a b _ _ => by simp [upto]
theorem Bits.fput {n : Nat} {F : Nat → Nat → Bool} {zs : List Nat} {i k : Nat} (h : Bits n (upto F i k) zs) (hF : F i k = true) (hi : i < n) (hk : k < n) (hn : n ≤ 64) : Bits n (upto F i (k + 1)) (putL zs i k) :=
  (h.put hi hk hn).congr fun a b _ _ => by
    unfold upto
    by_cases e : a = i ∧ b = k
    · obtain ⟨rfl, rfl⟩ := e; simp [hF]
    · have : decide (a = i ∧ b < k + 1) = decide (a = i ∧ b < k) := by
        rw [decide_eq_decide]; omega
      rw [this]; simp [e]
theorem Bits.fskip {n : Nat} {F : Nat → Nat → Bool} {zs : List Nat} {i k : Nat} (h : Bits n (upto F i k) zs) (hF : F i k = false) : Bits n (upto F i (k + 1)) zs :=
  h.congr fun a b _ _ => by
    unfold upto
    by_cases e : a = i ∧ b = k
    · obtain ⟨rfl, rfl⟩ := e; simp [hF]
    · have : decide (a = i ∧ b < k + 1) = decide (a = i ∧ b < k) := by
        rw [decide_eq_decide]; omega
      rw [this]
theorem Bits.frow {n : Nat} {F : Nat → Nat → Bool} {zs : List Nat} {i : Nat} (h : Bits n (upto F i n) zs) : Bits n (upto F (i + 1) 0) zs :=
  h.congr fun a b _ hb => by
    unfold upto
    have : (decide (a < i) || decide (a = i ∧ b < n)) = (decide (a < i + 1) || decide (a = i + 1 ∧ b < 0)) := by
      rw [Bool.eq_iff_iff]; simp; omega
    rw [this]
theorem Bits.fend {n k : Nat} {F : Nat → Nat → Bool} {zs : List Nat} (h : Bits n (upto F n k) zs) : Bits n F zs :=
  h.congr fun a b ha _ => by
    unfold upto
    simp [ha]
theorem upto_put {F : Nat → Nat → Bool} {i k : Nat} (hF : F i k = true) (a b : Nat) : (upto F i k a b || decide (a = i ∧ b = k)) = upto F i (k + 1) a b := by
  unfold upto
  by_cases e : a = i ∧ b = k
  · obtain ⟨rfl, rfl⟩ := e; simp [hF]
  · have : decide (a = i ∧ b < k + 1) = decide (a = i ∧ b < k) := by
      rw [decide_eq_decide]; omega
    rw [this]; simp [e]
theorem upto_skip {F : Nat → Nat → Bool} {i k : Nat} (hF : F i k = false) (a b : Nat) : upto F i k a b = upto F i (k + 1) a b := by
  unfold upto
  by_cases e : a = i ∧ b = k
  · obtain ⟨rfl, rfl⟩ := e; simp [hF]
  · have : decide (a = i ∧ b < k + 1) = decide (a = i ∧ b < k) := by
      rw [decide_eq_decide]; omega
    rw [this]
theorem upto_row {F : Nat → Nat → Bool} {i n a b : Nat} (hb : b < n) : upto F i n a b = upto F (i + 1) 0 a b := by
  unfold upto
  have : (decide (a < i) || decide (a = i ∧ b < n)) = (decide (a < i + 1) || decide (a = i + 1 ∧ b < 0)) := by
    rw [Bool.eq_iff_iff]; simp; omega
  rw [this]
theorem upto_end {F : Nat → Nat → Bool} {n k a b : Nat} (ha : a < n) : upto F n k a b = F a b := by
  unfold upto; simp [ha]
theorem upto_zero (F : Nat → Nat → Bool) (a b : Nat) : upto F 0 0 a b = false := by simp [upto]

/-- Is there a j below J by which a comes to b? -/
def viaB (A B : Nat → Nat → Bool) (J a b : Nat) : Bool := (List.range J).any fun j => A a j && B j b
theorem viaB_zero (A B : Nat → Nat → Bool) (a b : Nat) : viaB A B 0 a b = false := by simp [viaB]
theorem viaB_succ (A B : Nat → Nat → Bool) (J a b : Nat) : viaB A B (J + 1) a b = (viaB A B J a b || (A a J && B J b)) := by
  unfold viaB; rw [List.range_succ, List.any_append]; simp
/-- Rows ahead of i whole; of row i what comes by j's ahead of j, and of j the bits ahead of k. -/
def viaG (A B : Nat → Nat → Bool) (n i j k a b : Nat) : Bool := (decide (a < i) && viaB A B n a b) || (decide (a = i) && (viaB A B j a b || (A a j && B j b && decide (b < k))))
theorem viaG_zero (A B : Nat → Nat → Bool) (n a b : Nat) : viaG A B n 0 0 0 a b = false := by simp [viaG, viaB_zero]
theorem viaG_put {A B : Nat → Nat → Bool} {n i j k : Nat} (hA : A i j = true) (hB : B j k = true) (a b : Nat) : (viaG A B n i j k a b || decide (a = i ∧ b = k)) = viaG A B n i j (k + 1) a b := by
  unfold viaG
  by_cases ea : a = i
  · subst ea
    by_cases eb : b = k
    · subst eb; simp [hA, hB]
    · have : decide (b < k + 1) = decide (b < k) := by rw [decide_eq_decide]; omega
      rw [this]; simp [eb]
  · simp [ea]
theorem viaG_skip {A B : Nat → Nat → Bool} {n i j k : Nat} (hB : B j k = false) (a b : Nat) : viaG A B n i j k a b = viaG A B n i j (k + 1) a b := by
  unfold viaG
  by_cases eb : b = k
  · subst eb; simp [hB]
  · have : decide (b < k + 1) = decide (b < k) := by rw [decide_eq_decide]; omega
    rw [this]
theorem viaG_none {A B : Nat → Nat → Bool} {n i j : Nat} (hA : A i j = false) (a b : Nat) : viaG A B n i j 0 a b = viaG A B n i (j + 1) 0 a b := by
  unfold viaG
  by_cases ea : a = i
  · subst ea; rw [viaB_succ]; simp [hA]
  · simp [ea]
theorem viaG_next {A B : Nat → Nat → Bool} {n i j a b : Nat} (hb : b < n) : viaG A B n i j n a b = viaG A B n i (j + 1) 0 a b := by
  unfold viaG
  by_cases ea : a = i
  · subst ea; rw [viaB_succ]; simp [hb]
  · simp [ea]
theorem viaG_row {A B : Nat → Nat → Bool} {n i a b : Nat} : viaG A B n i n 0 a b = viaG A B n (i + 1) 0 0 a b := by
  unfold viaG
  by_cases ea : a = i
  · subst ea; simp [viaB_zero]
  · have : decide (a < i + 1) = decide (a < i) := by rw [decide_eq_decide]; omega
    rw [this]; simp [ea, viaB_zero]
theorem viaG_end {A B : Nat → Nat → Bool} {n j k a b : Nat} (ha : a < n) : viaG A B n n j k a b = viaB A B n a b := by
  unfold viaG
  have : ¬ a = n := by omega
  simp [ha, this]
end Go.Proofs.YtcfegclnkheebaaDoor
