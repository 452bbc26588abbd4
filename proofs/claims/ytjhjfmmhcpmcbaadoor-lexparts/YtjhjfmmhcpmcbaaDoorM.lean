/-
  The words of a text, in plain Lean: one step at the front of a list of bytes, and all steps; no program is named here.
-/
import Derived.WalkKit
namespace Go.Proofs.YtjhjfmmhcpmcbaaDoor

def small (c : UInt8) : Bool := decide (97 ≤ c.toNat) && decide (c.toNat ≤ 122)
def digit (c : UInt8) : Bool := decide (48 ≤ c.toNat) && decide (c.toNat ≤ 57)
def blank (c : UInt8) : Bool := decide (c.toNat = 32) || decide (c.toNat = 9) || decide (c.toNat = 10) || decide (c.toNat = 13)
def single (c : UInt8) : Bool := decide (c.toNat = 40) || decide (c.toNat = 41) || decide (c.toNat = 93) || decide (c.toNat = 59) || decide (c.toNat = 44) || decide (c.toNat = 33) || decide (c.toNat = 124) || decide (c.toNat = 61) || decide (c.toNat = 60) || decide (c.toNat = 43) || decide (c.toNat = 45) || decide (c.toNat = 42) || decide (c.toNat = 47)
def double (a b : UInt8) : Bool := (decide (a.toNat = 58) && decide (b.toNat = 61)) || (decide (a.toNat = 60) && decide (b.toNat = 45)) || (decide (a.toNat = 45) && decide (b.toNat = 62)) || (decide (a.toNat = 46) && decide (b.toNat = 91))
def nameC (c : UInt8) : Bool := small c || digit c
def notNl (c : UInt8) : Bool := !decide (c.toNat = 10)

/-- The words of the language. -/
def keyL : List (List UInt8) := [[99, 101, 108, 108], [97, 116, 111, 109], [114, 111, 119], [100, 111, 109, 97, 105, 110], [101, 110, 100], [108, 101, 116], [105, 110], [105, 102], [116, 104, 101, 110], [101, 108, 115, 101], [102, 117, 110], [109, 97, 116, 99, 104], [119, 105, 116, 104], [110, 111, 110, 101], [115, 111, 109, 101], [116, 114, 117, 101], [102, 97, 108, 115, 101], [112, 114, 105, 110, 116], [115, 119, 97, 112], [97, 100, 100], [99, 97, 115]]
def keyB (l : List UInt8) : Bool := keyL.contains l

/-- What a row of digits tells. -/
def numV (l : List UInt8) : Nat := l.foldl (fun n c => 10 * n + (c.toNat - 48)) 0

inductive Step where
  | skip (n : Nat)
  | tok (kind val n : Nat)
  | bad
/-- One step at the front. -/
def stepL (l : List UInt8) : Step :=
  match l with
  | [] => .bad
  | c :: r =>
    if blank c = true then .skip 1
    else if c.toNat = 35 then .skip (l.takeWhile notNl).length
    else if small c = true then
      if 16 < (l.takeWhile nameC).length then .bad
      else .tok (if keyB (l.takeWhile nameC) = true then 2 else 1) 0 (l.takeWhile nameC).length
    else if digit c = true then
      if 9 < (l.takeWhile digit).length ∨ (c.toNat = 48 ∧ 1 < (l.takeWhile digit).length) ∨ (l[(l.takeWhile digit).length]?).any small = true then .bad
      else .tok 3 (numV (l.takeWhile digit)) (l.takeWhile digit).length
    else if (r[0]?).any (double c) = true then .tok 4 0 2
    else if single c = true then .tok 4 0 1
    else .bad

structure Tok where
  kind : Nat
  text : List UInt8
  val : Nat
  pos : Nat
inductive Res where
  | ok (l : List Tok)
  | err (code pos : Nat)
def Res.cons (t : Tok) : Res → Res
  | .ok l => .ok (t :: l)
  | .err c p => .err c p
/-- All steps. -/
def lexF : Nat → List UInt8 → Nat → Nat → Res
  | 0, _, _, _ => .ok []
  | f + 1, l, p, k =>
    if l = [] then .ok []
    else match stepL l with
      | .skip n => lexF f (l.drop n) (p + n) k
      | .bad => .err 10 p
      | .tok kind val n => if 1500 ≤ k then .err 15 p else (lexF f (l.drop n) (p + n) (k + 1)).cons ⟨kind, l.take n, val, p⟩
/-- The document's answer. -/
def lexT (l : List UInt8) : Res := if 8192 < l.length then .err 15 0 else lexF l.length l 0 0

theorem small_not {c : UInt8} (h : blank c = true) : small c = false ∧ digit c = false := by
  unfold blank at h; unfold small digit
  simp only [Bool.or_eq_true, decide_eq_true_iff] at h
  refine ⟨?_, ?_⟩ <;> rw [Bool.and_eq_false_iff, decide_eq_false_iff_not, decide_eq_false_iff_not] <;> omega
theorem takeWhile_pos {p : UInt8 → Bool} {c : UInt8} {r : List UInt8} (h : p c = true) : 1 ≤ ((c :: r).takeWhile p).length := by
  rw [List.takeWhile_cons_of_pos h]; simp
theorem takeWhile_le (p : UInt8 → Bool) (l : List UInt8) : (l.takeWhile p).length ≤ l.length := (List.takeWhile_sublist p).length_le
/-- A step goes on, and not beyond the end. -/
theorem step_len {l : List UInt8} {n : Nat} (h : stepL l = .skip n) : 1 ≤ n ∧ n ≤ l.length := by
  unfold stepL at h
  split at h
  · cases h
  · rename_i c r
    split at h
    · cases h; simp
    · split at h
      · rename_i h35
        cases h
        exact ⟨takeWhile_pos (by unfold notNl; simp [h35]), takeWhile_le _ _⟩
      · split at h
        · split at h <;> cases h
        · split at h
          · split at h <;> cases h
          · split at h
            · cases h
            · split at h <;> cases h
theorem tok_len {l : List UInt8} {k v n : Nat} (h : stepL l = .tok k v n) : 1 ≤ n ∧ n ≤ l.length := by
  unfold stepL at h
  split at h
  · cases h
  · rename_i c r
    split at h
    · cases h
    · split at h
      · cases h
      · split at h
        · rename_i hs
          split at h
          · cases h
          · cases h; exact ⟨takeWhile_pos (by unfold nameC; rw [hs]; rfl), takeWhile_le _ _⟩
        · split at h
          · rename_i hd
            split at h
            · cases h
            · cases h; exact ⟨takeWhile_pos hd, takeWhile_le _ _⟩
          · split at h
            · rename_i h2
              cases h
              cases r with
              | nil => simp at h2
              | cons => simp
            · split at h
              · cases h; simp
              · cases h
/-- With as many steps as there are bytes all is read. -/
theorem lexF_more (f : Nat) : ∀ (g : Nat) (l : List UInt8) (p k : Nat), l.length ≤ f → l.length ≤ g → lexF f l p k = lexF g l p k := by
  induction f with
  | zero =>
    intro g l p k h1 h2
    have : l = [] := List.eq_nil_of_length_eq_zero (by omega)
    subst this
    cases g <;> simp [lexF]
  | succ f ih =>
    intro g l p k h1 h2
    cases g with
    | zero =>
      have : l = [] := List.eq_nil_of_length_eq_zero (by omega)
      subst this; simp [lexF]
    | succ g =>
      by_cases e : l = []
      · subst e; simp [lexF]
      · unfold lexF
        rw [if_neg e, if_neg e]
        cases hs : stepL l with
        | bad => rfl
        | skip n =>
          have := step_len hs
          exact ih g _ _ _ (by rw [List.length_drop]; omega) (by rw [List.length_drop]; omega)
        | tok kd v n =>
          have := tok_len hs
          simp only
          rw [ih g _ _ _ (by rw [List.length_drop]; omega) (by rw [List.length_drop]; omega)]
def lexA (l : List UInt8) (p k : Nat) : Res := lexF l.length l p k
theorem lexA_nil (p k : Nat) : lexA [] p k = .ok [] := rfl
theorem lexA_skip {l : List UInt8} {n : Nat} (h : stepL l = .skip n) (p k : Nat) : lexA l p k = lexA (l.drop n) (p + n) k := by
  have hl := step_len h
  unfold lexA
  obtain ⟨f, hf⟩ : ∃ f, l.length = f + 1 := ⟨l.length - 1, by omega⟩
  have ne : l ≠ [] := fun e => by rw [e] at hl; simp at hl; omega
  rw [hf, lexF, if_neg ne, h]
  exact lexF_more _ _ _ _ _ (by rw [List.length_drop]; omega) (Nat.le_refl _)
theorem lexA_bad {l : List UInt8} (hl : l ≠ []) (h : stepL l = .bad) (p k : Nat) : lexA l p k = .err 10 p := by
  unfold lexA
  obtain ⟨f, hf⟩ : ∃ f, l.length = f + 1 := ⟨l.length - 1, by have := List.length_pos_iff.2 hl; omega⟩
  rw [hf, lexF, if_neg hl, h]
theorem lexA_many {l : List UInt8} {kd v n : Nat} (h : stepL l = .tok kd v n) (p : Nat) {k : Nat} (hk : 1500 ≤ k) : lexA l p k = .err 15 p := by
  have hl := tok_len h
  unfold lexA
  obtain ⟨f, hf⟩ : ∃ f, l.length = f + 1 := ⟨l.length - 1, by omega⟩
  have ne : l ≠ [] := fun e => by rw [e] at hl; simp at hl; omega
  rw [hf, lexF, if_neg ne, h]
  simp only
  rw [if_pos hk]
theorem lexA_tok {l : List UInt8} {kd v n : Nat} (h : stepL l = .tok kd v n) (p : Nat) {k : Nat} (hk : ¬ 1500 ≤ k) : lexA l p k = (lexA (l.drop n) (p + n) (k + 1)).cons ⟨kd, l.take n, v, p⟩ := by
  have hl := tok_len h
  unfold lexA
  obtain ⟨f, hf⟩ : ∃ f, l.length = f + 1 := ⟨l.length - 1, by omega⟩
  have ne : l ≠ [] := fun e => by rw [e] at hl; simp at hl; omega
  rw [hf, lexF, if_neg ne, h]
  simp only
  rw [if_neg hk, lexF_more _ (l.drop n).length _ _ _ (by rw [List.length_drop]; omega) (Nat.le_refl _)]
end Go.Proofs.YtjhjfmmhcpmcbaaDoor
