/-
  Plain facts on what is read in a row: how far bytes of a kind go, what digits tell, and which step stands at a place; no program is named here.
-/
import Derived.Test.YtjhjfmmhcpmcbaaDoorM
namespace Go.Proofs.YtjhjfmmhcpmcbaaDoor

/-- Where bytes of a kind end, from i on. -/
def upTo (p : UInt8 → Bool) (l : List UInt8) (i : Nat) : Nat := i + ((l.drop i).takeWhile p).length
theorem drop_at {l : List UInt8} {i : Nat} {c : UInt8} (h : l[i]? = some c) : l.drop i = c :: l.drop (i + 1) := by
  obtain ⟨hi, e⟩ := List.getElem?_eq_some_iff.1 h
  rw [List.drop_eq_getElem_cons hi, e]
theorem upTo_step {p : UInt8 → Bool} {l : List UInt8} {i : Nat} {c : UInt8} (h : l[i]? = some c) (hp : p c = true) : upTo p l (i + 1) = upTo p l i := by
  unfold upTo; rw [drop_at h, List.takeWhile_cons_of_pos hp, List.length_cons]; omega
theorem upTo_stop {p : UInt8 → Bool} {l : List UInt8} {i : Nat} {c : UInt8} (h : l[i]? = some c) (hp : p c = false) : upTo p l i = i := by
  unfold upTo; rw [drop_at h, List.takeWhile_cons_of_neg (by rw [hp]; simp)]; rfl
theorem upTo_end {p : UInt8 → Bool} {l : List UInt8} {i : Nat} (h : l.length ≤ i) : upTo p l i = i := by
  unfold upTo; rw [List.drop_eq_nil_of_le h]; rfl
theorem upTo_len {p : UInt8 → Bool} {l : List UInt8} {i : Nat} (h : i ≤ l.length) : i ≤ upTo p l i ∧ upTo p l i ≤ l.length := by
  unfold upTo
  have := (List.takeWhile_sublist p (l := l.drop i)).length_le
  rw [List.length_drop] at this
  omega
theorem upTo_sub (p : UInt8 → Bool) (l : List UInt8) (i : Nat) : upTo p l i - i = ((l.drop i).takeWhile p).length := by unfold upTo; omega
theorem takeWhile_take (p : UInt8 → Bool) (l : List UInt8) : l.takeWhile p = l.take (l.takeWhile p).length := by
  induction l with
  | nil => rfl
  | cons c r ih =>
    by_cases h : p c = true
    · rw [List.takeWhile_cons_of_pos h, List.length_cons, List.take_succ_cons, ← ih]
    · rw [List.takeWhile_cons_of_neg h]; rfl

theorem numV_add (l : List UInt8) (c : UInt8) : numV (l ++ [c]) = 10 * numV l + (c.toNat - 48) := by
  unfold numV; rw [List.foldl_append]; rfl
theorem numV_le (n : Nat) : ∀ l : List UInt8, l.length = n → numV l + 23 ≤ 23 * 10 ^ n := by
  induction n with
  | zero =>
    intro l h
    have : l = [] := List.eq_nil_of_length_eq_zero h
    subst this; decide
  | succ n ih =>
    intro l h
    have hne : l ≠ [] := fun e => by rw [e] at h; simp at h
    have e := (List.dropLast_concat_getLast hne).symm
    have h1 := ih l.dropLast (by rw [List.length_dropLast]; omega)
    have h2 := numV_add l.dropLast (l.getLast hne)
    rw [← e] at h2
    have h3 : (l.getLast hne).toNat < 256 := UInt8.toNat_lt _
    rw [Nat.pow_succ]
    omega
/-- What the first nine digits from i on, up to j, tell. -/
def numTo (l : List UInt8) (i j : Nat) : Nat := numV ((l.drop i).take (min (j - i) 9))
theorem numTo_start (l : List UInt8) (i : Nat) : numTo l i i = 0 := by unfold numTo; rw [Nat.sub_self, Nat.zero_min]; rfl
theorem numTo_le {l : List UInt8} {i j : Nat} : numTo l i j ≤ 23000000000 := by
  unfold numTo
  have h := numV_le _ ((l.drop i).take (min (j - i) 9)) rfl
  have h1 : ((l.drop i).take (min (j - i) 9)).length ≤ 9 := by rw [List.length_take]; omega
  have h2 : 10 ^ ((l.drop i).take (min (j - i) 9)).length ≤ 10 ^ 9 := Nat.pow_le_pow_right (by omega) h1
  have h3 : 10 ^ 9 = 1000000000 := by decide
  omega
theorem numTo_step {l : List UInt8} {i j : Nat} {c : UInt8} (hij : i ≤ j) (hj : l[j]? = some c) (h9 : j - i < 9) : numTo l i (j + 1) = 10 * numTo l i j + (c.toNat - 48) := by
  unfold numTo
  rw [show min (j + 1 - i) 9 = (j - i) + 1 by omega, show min (j - i) 9 = j - i by omega, List.take_add_one, ← numV_add]
  congr 2
  rw [List.getElem?_drop, show i + (j - i) = j by omega, hj]; rfl
theorem numTo_stay {l : List UInt8} {i j : Nat} (h9 : ¬ j - i < 9) : numTo l i (j + 1) = numTo l i j := by
  unfold numTo
  rw [show min (j + 1 - i) 9 = 9 by omega, show min (j - i) 9 = 9 by omega]

section
variable {l : List UInt8} {i : Nat} {c : UInt8}
theorem step_blank (h : l[i]? = some c) (q : blank c = true) : stepL (l.drop i) = .skip 1 := by
  rw [drop_at h]; unfold stepL; simp only; rw [if_pos q]
theorem step_remark (h : l[i]? = some c) (q : blank c = false) (q1 : c.toNat = 35) : stepL (l.drop i) = .skip (upTo notNl l i - i) := by
  rw [upTo_sub, drop_at h]; unfold stepL; simp only; rw [if_neg (by rw [q]; simp), if_pos q1]
theorem step_name (h : l[i]? = some c) (q : blank c = false) (q1 : ¬ c.toNat = 35) (q2 : small c = true) :
    stepL (l.drop i) = if 16 < upTo nameC l i - i then .bad else .tok (if keyB ((l.drop i).take (upTo nameC l i - i)) = true then 2 else 1) 0 (upTo nameC l i - i) := by
  rw [upTo_sub, ← takeWhile_take, drop_at h]; unfold stepL; simp only; rw [if_neg (by rw [q]; simp), if_neg q1, if_pos q2]
theorem step_num (h : l[i]? = some c) (q : blank c = false) (q1 : ¬ c.toNat = 35) (q2 : small c = false) (q3 : digit c = true) :
    stepL (l.drop i) = if 9 < upTo digit l i - i ∨ (c.toNat = 48 ∧ 1 < upTo digit l i - i) ∨ (l[upTo digit l i]?).any small = true then .bad else .tok 3 (numTo l i (upTo digit l i)) (upTo digit l i - i) := by
  have e1 : (l.drop i)[((l.drop i).takeWhile digit).length]? = l[upTo digit l i]? := by rw [List.getElem?_drop]; rfl
  have e2 : numV ((l.drop i).takeWhile digit) = numTo l i (upTo digit l i) ∨ 9 < upTo digit l i - i := by
    by_cases h9 : 9 < upTo digit l i - i
    · exact Or.inr h9
    · left
      unfold numTo
      rw [show min (upTo digit l i - i) 9 = upTo digit l i - i by omega, upTo_sub, ← takeWhile_take]
  have e3 : stepL (l.drop i) = if 9 < ((l.drop i).takeWhile digit).length ∨ (c.toNat = 48 ∧ 1 < ((l.drop i).takeWhile digit).length) ∨ ((l.drop i)[((l.drop i).takeWhile digit).length]?).any small = true then .bad else .tok 3 (numV ((l.drop i).takeWhile digit)) ((l.drop i).takeWhile digit).length := by
    conv => lhs; rw [drop_at h]
    unfold stepL
    simp only
    rw [if_neg (by rw [q]; simp), if_neg q1, if_neg (by rw [q2]; simp), if_pos q3, ← drop_at h]
  rw [e3, e1, ← upTo_sub]
  rcases e2 with e2 | e2
  · rw [e2]
  · rw [if_pos (Or.inl e2), if_pos (Or.inl e2)]
theorem step_two (h : l[i]? = some c) (q : blank c = false) (q1 : ¬ c.toNat = 35) (q2 : small c = false) (q3 : digit c = false) {d : UInt8} (hd : l[i + 1]? = some d) (q4 : double c d = true) : stepL (l.drop i) = .tok 4 0 2 := by
  rw [drop_at h]; unfold stepL; simp only
  rw [if_neg (by rw [q]; simp), if_neg q1, if_neg (by rw [q2]; simp), if_neg (by rw [q3]; simp), if_pos (by rw [List.getElem?_drop, Nat.add_zero, hd]; exact q4)]
theorem step_one (h : l[i]? = some c) (q : blank c = false) (q1 : ¬ c.toNat = 35) (q2 : small c = false) (q3 : digit c = false) (q4 : (l[i + 1]?).any (double c) = false) : stepL (l.drop i) = if single c = true then .tok 4 0 1 else .bad := by
  rw [drop_at h]; unfold stepL; simp only
  rw [if_neg (by rw [q]; simp), if_neg q1, if_neg (by rw [q2]; simp), if_neg (by rw [q3]; simp), if_neg (by rw [List.getElem?_drop, Nat.add_zero, q4]; simp)]
end
end Go.Proofs.YtjhjfmmhcpmcbaaDoor
