/-
  Plain facts on the order of a relation: each time the least to which none of those that aren't told yet stands.
-/
import Derived.Test.YtcfegclnkheebaaDoorW
namespace Go.Proofs.YtcfegclnkheebaaDoor

/-- May k be told next? -/
def freeB (R : Nat → Nat → Bool) (n : Nat) (l : List Nat) (k : Nat) : Bool := !l.contains k && (List.range n).all fun i => l.contains i || !R i k
/-- The least of those from k on, below n, that may be told; n if there is none. -/
def leastFrom (R : Nat → Nat → Bool) (n : Nat) (l : List Nat) : Nat → Nat
  | 0 => n
  | d + 1 => if freeB R n l (n - (d + 1)) = true then n - (d + 1) else leastFrom R n l d
def ordF (R : Nat → Nat → Bool) (n : Nat) : Nat → List Nat → Option (List Nat)
  | 0, l => some l
  | f + 1, l => if leastFrom R n l n < n then ordF R n f (l ++ [leastFrom R n l n]) else none
/-- The order of a relation of n, if it has one. -/
def ordL (R : Nat → Nat → Bool) (n : Nat) : Option (List Nat) := ordF R n n []
theorem leastFrom_spec (R : Nat → Nat → Bool) (n : Nat) (l : List Nat) (d : Nat) (hd : d ≤ n) : leastFrom R n l d ≤ n ∧ (leastFrom R n l d < n → n - d ≤ leastFrom R n l d ∧ freeB R n l (leastFrom R n l d) = true) ∧ ∀ k, n - d ≤ k → k < leastFrom R n l d → freeB R n l k = false := by
  induction d with
  | zero =>
    unfold leastFrom
    exact ⟨Nat.le_refl _, fun h => by omega, fun k h1 h2 => by omega⟩
  | succ d ih =>
    obtain ⟨i1, i2, i3⟩ := ih (by omega)
    unfold leastFrom
    split
    · rename_i h
      exact ⟨by omega, fun _ => ⟨Nat.le_refl _, h⟩, fun k h1 h2 => by omega⟩
    · rename_i h
      refine ⟨i1, fun hl => ⟨by have := (i2 hl).1; omega, (i2 hl).2⟩, fun k h1 h2 => ?_⟩
      by_cases e : k = n - (d + 1)
      · subst e; simpa using h
      · exact i3 k (by omega) h2
theorem freeB_iff {R : Nat → Nat → Bool} {n : Nat} {l : List Nat} {k : Nat} : freeB R n l k = true ↔ k ∉ l ∧ ∀ i, i < n → i ∉ l → R i k = false := by
  unfold freeB
  simp only [Bool.and_eq_true, Bool.not_eq_true', List.all_eq_true, List.mem_range, Bool.or_eq_true]
  constructor
  · rintro ⟨h1, h2⟩
    refine ⟨fun h => ?_, fun i hi hl => ?_⟩
    · have : l.contains k = true := by simpa using h
      rw [this] at h1; simp at h1
    · rcases h2 i hi with h | h
      · exact absurd (by simpa using h) hl
      · exact h
  · rintro ⟨h1, h2⟩
    refine ⟨by simpa using h1, fun i hi => ?_⟩
    by_cases hl : i ∈ l
    · exact Or.inl (by simpa using hl)
    · exact Or.inr (h2 i hi hl)
/-- k may be told, as far as those below i have a say. -/
def freeP (R : Nat → Nat → Bool) (l : List Nat) (k i : Nat) : Bool := !l.contains k && (List.range i).all fun j => l.contains j || !R j k
theorem freeP_zero (R : Nat → Nat → Bool) (l : List Nat) (k : Nat) : freeP R l k 0 = !l.contains k := by simp [freeP]
theorem freeP_succ (R : Nat → Nat → Bool) (l : List Nat) (k i : Nat) : freeP R l k (i + 1) = (freeP R l k i && (l.contains i || !R i k)) := by
  unfold freeP
  rw [List.range_succ, List.all_append]
  simp [Bool.and_assoc]
theorem freeP_end (R : Nat → Nat → Bool) (n : Nat) (l : List Nat) (k : Nat) : freeP R l k n = freeB R n l k := rfl
theorem leastFrom_yes {R : Nat → Nat → Bool} {n : Nat} {l : List Nat} {d : Nat} (h : freeB R n l (n - (d + 1)) = true) : leastFrom R n l (d + 1) = n - (d + 1) := by
  rw [leastFrom, if_pos h]
theorem leastFrom_no {R : Nat → Nat → Bool} {n : Nat} {l : List Nat} {d : Nat} (h : freeB R n l (n - (d + 1)) = false) : leastFrom R n l (d + 1) = leastFrom R n l d := by
  rw [leastFrom, if_neg (by rw [h]; simp)]
/-- Where it stands: -1 if there is none. -/
def atI (n m : Nat) : Int := if m < n then (m : Int) else -1
theorem ordF_none {R : Nat → Nat → Bool} {n f : Nat} {l : List Nat} (h : ¬ leastFrom R n l n < n) : ordF R n (f + 1) l = none := by
  rw [ordF, if_neg h]
theorem ordF_some {R : Nat → Nat → Bool} {n f : Nat} {l : List Nat} (h : leastFrom R n l n < n) : ordF R n (f + 1) l = ordF R n f (l ++ [leastFrom R n l n]) := by
  rw [ordF, if_pos h]
end Go.Proofs.YtcfegclnkheebaaDoor
