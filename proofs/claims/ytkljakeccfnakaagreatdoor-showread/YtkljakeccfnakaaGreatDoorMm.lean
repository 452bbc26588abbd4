/-
  The words of a text, in plain Lean: one step at the front of a list of bytes, and all steps; no program is named here.
  The walks of the document's own small functions of layer 4.
  Names, and the walk of the document's own answer for them.
  Plain facts on what is read in a row: how far bytes of a kind go, what digits tell, and which step stands at a place; no program is named here.
  Plain facts on the words of a text: where they stand, what a cut leaves, how they are read again; no program is named here.
  Plain facts on the words of a text: written again with something between; what stands between them; names; no program is named here.
-/
import Derived.WalkKit
import Derived.Test.YtkljakeccfnakaaGreatDoorProg
import Derived.WalkSpells
import Derived.WalkLawsBesides
import Derived.Deep.QuietTactic
import Derived.BigQuiet
import Derived.Lib.Strings
namespace Go.Proofs.YtkljakeccfnakaaGreatDoor

def small (c : UInt8) : Bool := decide (97 ≤ c.toNat) && decide (c.toNat ≤ 122)
def digit (c : UInt8) : Bool := decide (48 ≤ c.toNat) && decide (c.toNat ≤ 57)
def blank (c : UInt8) : Bool := decide (c.toNat = 32) || decide (c.toNat = 9) || decide (c.toNat = 10) || decide (c.toNat = 13)
def single (c : UInt8) : Bool := decide (c.toNat = 40) || decide (c.toNat = 41) || decide (c.toNat = 93) || decide (c.toNat = 59) || decide (c.toNat = 44) || decide (c.toNat = 33) || decide (c.toNat = 124) || decide (c.toNat = 61) || decide (c.toNat = 60) || decide (c.toNat = 43) || decide (c.toNat = 45) || decide (c.toNat = 42) || decide (c.toNat = 47)
def double (a b : UInt8) : Bool := (decide (a.toNat = 58) && decide (b.toNat = 61)) || (decide (a.toNat = 60) && decide (b.toNat = 45)) || (decide (a.toNat = 45) && decide (b.toNat = 62)) || (decide (a.toNat = 46) && decide (b.toNat = 91))
def nameC (c : UInt8) : Bool := small c || digit c
def notNl (c : UInt8) : Bool := !decide (c.toNat = 10)

/-- The words of the language. -/
def keyL : List (List UInt8) := [[99, 101, 108, 108], [97, 116, 111, 109], [114, 111, 119], [100, 111, 109, 97, 105, 110], [101, 110, 100], [108, 101, 116], [105, 110], [105, 102], [116, 104, 101, 110], [101, 108, 115, 101], [102, 117, 110], [109, 97, 116, 99, 104], [119, 105, 116, 104], [110, 111, 110, 101], [115, 111, 109, 101], [116, 114, 117, 101], [102, 97, 108, 115, 101], [112, 114, 105, 110, 116], [115, 119, 97, 112], [97, 100, 100], [99, 97, 115]]
def keyB (l : List UInt8) : Bool := keyL.contains l

/-- What a row of digits tells. -/
def numV (l : List UInt8) : Nat := l.foldl (fun n c => 10 * n + (c.toNat - 48)) 0

inductive Step where
  | skip (n : Nat)
  | tok (kind val n : Nat)
  | bad
/-- One step at the front. -/
def stepL (l : List UInt8) : Step :=
  match l with
  | [] => .bad
  | c :: r =>
    if blank c = true then .skip 1
    else if c.toNat = 35 then .skip (l.takeWhile notNl).length
    else if small c = true then
      if 16 < (l.takeWhile nameC).length then .bad
      else .tok (if keyB (l.takeWhile nameC) = true then 2 else 1) 0 (l.takeWhile nameC).length
    else if digit c = true then
      if 9 < (l.takeWhile digit).length ∨ (c.toNat = 48 ∧ 1 < (l.takeWhile digit).length) ∨ (l[(l.takeWhile digit).length]?).any small = true then .bad
      else .tok 3 (numV (l.takeWhile digit)) (l.takeWhile digit).length
    else if (r[0]?).any (double c) = true then .tok 4 0 2
    else if single c = true then .tok 4 0 1
    else .bad

structure Tok where
  kind : Nat
  text : List UInt8
  val : Nat
  pos : Nat
inductive Res where
  | ok (l : List Tok)
  | err (code pos : Nat)
def Res.cons (t : Tok) : Res → Res
  | .ok l => .ok (t :: l)
  | .err c p => .err c p
/-- All steps. -/
def lexF : Nat → List UInt8 → Nat → Nat → Res
  | 0, _, _, _ => .ok []
  | f + 1, l, p, k =>
    if l = [] then .ok []
    else match stepL l with
      | .skip n => lexF f (l.drop n) (p + n) k
      | .bad => .err 10 p
      | .tok kind val n => if 1500 ≤ k then .err 15 p else (lexF f (l.drop n) (p + n) (k + 1)).cons ⟨kind, l.take n, val, p⟩
/-- The document's answer. -/
def lexT (l : List UInt8) : Res := if 8192 < l.length then .err 15 0 else lexF l.length l 0 0

theorem small_not {c : UInt8} (h : blank c = true) : small c = false ∧ digit c = false := by
  unfold blank at h; unfold small digit
  simp only [Bool.or_eq_true, decide_eq_true_iff] at h
  refine ⟨?_, ?_⟩ <;> rw [Bool.and_eq_false_iff, decide_eq_false_iff_not, decide_eq_false_iff_not] <;> omega
theorem takeWhile_pos {p : UInt8 → Bool} {c : UInt8} {r : List UInt8} (h : p c = true) : 1 ≤ ((c :: r).takeWhile p).length := by
  rw [List.takeWhile_cons_of_pos h]; simp
theorem takeWhile_le (p : UInt8 → Bool) (l : List UInt8) : (l.takeWhile p).length ≤ l.length := (List.takeWhile_sublist p).length_le
/-- A step goes on, and not beyond the end. -/
theorem step_len {l : List UInt8} {n : Nat} (h : stepL l = .skip n) : 1 ≤ n ∧ n ≤ l.length := by
  unfold stepL at h
  split at h
  · cases h
  · rename_i c r
    split at h
    · cases h; simp
    · split at h
      · rename_i h35
        cases h
        exact ⟨takeWhile_pos (by unfold notNl; simp [h35]), takeWhile_le _ _⟩
      · split at h
        · split at h <;> cases h
        · split at h
          · split at h <;> cases h
          · split at h
            · cases h
            · split at h <;> cases h
theorem tok_len {l : List UInt8} {k v n : Nat} (h : stepL l = .tok k v n) : 1 ≤ n ∧ n ≤ l.length := by
  unfold stepL at h
  split at h
  · cases h
  · rename_i c r
    split at h
    · cases h
    · split at h
      · cases h
      · split at h
        · rename_i hs
          split at h
          · cases h
          · cases h; exact ⟨takeWhile_pos (by unfold nameC; rw [hs]; rfl), takeWhile_le _ _⟩
        · split at h
          · rename_i hd
            split at h
            · cases h
            · cases h; exact ⟨takeWhile_pos hd, takeWhile_le _ _⟩
          · split at h
            · rename_i h2
              cases h
              cases r with
              | nil => simp at h2
              | cons => simp
            · split at h
              · cases h; simp
              · cases h
/-- With as many steps as there are bytes all is read. -/
theorem lexF_more (f : Nat) : ∀ (g : Nat) (l : List UInt8) (p k : Nat), l.length ≤ f → l.length ≤ g → lexF f l p k = lexF g l p k := by
  induction f with
  | zero =>
    intro g l p k h1 h2
    have : l = [] := List.eq_nil_of_length_eq_zero (by omega)
    subst this
    cases g <;> simp [lexF]
  | succ f ih =>
    intro g l p k h1 h2
    cases g with
    | zero =>
      have : l = [] := List.eq_nil_of_length_eq_zero (by omega)
      subst this; simp [lexF]
    | succ g =>
      by_cases e : l = []
      · subst e; simp [lexF]
      · unfold lexF
        rw [if_neg e, if_neg e]
        cases hs : stepL l with
        | bad => rfl
        | skip n =>
          have := step_len hs
          exact ih g _ _ _ (by rw [List.length_drop]; omega) (by rw [List.length_drop]; omega)
        | tok kd v n =>
          have := tok_len hs
          simp only
          rw [ih g _ _ _ (by rw [List.length_drop]; omega) (by rw [List.length_drop]; omega)]
def lexA (l : List UInt8) (p k : Nat) : Res := lexF l.length l p k
theorem lexA_nil (p k : Nat) : lexA [] p k = .ok [] := rfl
theorem lexA_skip {l : List UInt8} {n : Nat} (h : stepL l = .skip n) (p k : Nat) : lexA l p k = lexA (l.drop n) (p + n) k := by
  have hl := step_len h
  unfold lexA
  obtain ⟨f, hf⟩ : ∃ f, l.length = f + 1 := ⟨l.length - 1, by omega⟩
  have ne : l ≠ [] := fun e => by rw [e] at hl; simp at hl; omega
  rw [hf, lexF, if_neg ne, h]
  exact lexF_more _ _ _ _ _ (by rw [List.length_drop]; omega) (Nat.le_refl _)
theorem lexA_bad {l : List UInt8} (hl : l ≠ []) (h : stepL l = .bad) (p k : Nat) : lexA l p k = .err 10 p := by
  unfold lexA
  obtain ⟨f, hf⟩ : ∃ f, l.length = f + 1 := ⟨l.length - 1, by have := List.length_pos_iff.2 hl; omega⟩
  rw [hf, lexF, if_neg hl, h]
theorem lexA_many {l : List UInt8} {kd v n : Nat} (h : stepL l = .tok kd v n) (p : Nat) {k : Nat} (hk : 1500 ≤ k) : lexA l p k = .err 15 p := by
  have hl := tok_len h
  unfold lexA
  obtain ⟨f, hf⟩ : ∃ f, l.length = f + 1 := ⟨l.length - 1, by omega⟩
  have ne : l ≠ [] := fun e => by rw [e] at hl; simp at hl; omega
  rw [hf, lexF, if_neg ne, h]
  simp only
  rw [if_pos hk]
theorem lexA_tok {l : List UInt8} {kd v n : Nat} (h : stepL l = .tok kd v n) (p : Nat) {k : Nat} (hk : ¬ 1500 ≤ k) : lexA l p k = (lexA (l.drop n) (p + n) (k + 1)).cons ⟨kd, l.take n, v, p⟩ := by
  have hl := tok_len h
  unfold lexA
  obtain ⟨f, hf⟩ : ∃ f, l.length = f + 1 := ⟨l.length - 1, by omega⟩
  have ne : l ≠ [] := fun e => by rw [e] at hl; simp at hl; omega
  rw [hf, lexF, if_neg ne, h]
  simp only
  rw [if_neg hk, lexF_more _ (l.drop n).length _ _ _ (by rw [List.length_drop]; omega) (Nat.le_refl _)]
end Go.Proofs.YtkljakeccfnakaaGreatDoor

namespace Go.Proofs.YtkljakeccfnakaaGreatDoor
open Go.RowKit

theorem ret_int {k : IntKind} {a b : Int} (h : a = b) : Ending.returned (.int k a) = .returned (.int k b) := by rw [h]
theorem ret_bool {a b : Bool} (h : a = b) : Ending.returned (.bool a) = .returned (.bool b) := by rw [h]

def singleB (c : Int) : Bool := c == 40 || c == 41 || c == 93 || c == 59 || c == 44 || c == 33 || c == 124 || c == 61 || c == 60 || c == 43 || c == 45 || c == 42 || c == 47
theorem cast_eq (n k : Nat) : ((n : Int) == (k : Int)) = decide (n = k) := by
  rw [Bool.eq_iff_iff, beq_iff_eq, decide_eq_true_iff]; omega
end Go.Proofs.YtkljakeccfnakaaGreatDoor

namespace Go.Proofs.YtkljakeccfnakaaGreatDoor
open Go.RowKit

/-- Is it a name? -/
def firstB (l : List UInt8) : Bool := (l[0]?).any small
def isNameB (l : List UInt8) : Bool := firstB l && l.all nameC && decide (l.length ≤ 16) && !keyB l
theorem byte_at (s : ByteArray) {i : Nat} (h : i < s.size) : ∃ c, s[i] = c ∧ s.data.toList[i]? = some c := by
  refine ⟨s[i], rfl, ?_⟩
  have h' : i < s.data.toList.length := by rw [← Lib.size_eq]; exact h
  rw [List.getElem?_eq_getElem h']
  congr 1
end Go.Proofs.YtkljakeccfnakaaGreatDoor

namespace Go.Proofs.YtkljakeccfnakaaGreatDoor

/-- Where bytes of a kind end, from i on. -/
def upTo (p : UInt8 → Bool) (l : List UInt8) (i : Nat) : Nat := i + ((l.drop i).takeWhile p).length
theorem drop_at {l : List UInt8} {i : Nat} {c : UInt8} (h : l[i]? = some c) : l.drop i = c :: l.drop (i + 1) := by
  obtain ⟨hi, e⟩ := List.getElem?_eq_some_iff.1 h
  rw [List.drop_eq_getElem_cons hi, e]
theorem upTo_step {p : UInt8 → Bool} {l : List UInt8} {i : Nat} {c : UInt8} (h : l[i]? = some c) (hp : p c = true) : upTo p l (i + 1) = upTo p l i := by
  unfold upTo; rw [drop_at h, List.takeWhile_cons_of_pos hp, List.length_cons]; omega
theorem upTo_stop {p : UInt8 → Bool} {l : List UInt8} {i : Nat} {c : UInt8} (h : l[i]? = some c) (hp : p c = false) : upTo p l i = i := by
  unfold upTo; rw [drop_at h, List.takeWhile_cons_of_neg (by rw [hp]; simp)]; rfl
theorem upTo_end {p : UInt8 → Bool} {l : List UInt8} {i : Nat} (h : l.length ≤ i) : upTo p l i = i := by
  unfold upTo; rw [List.drop_eq_nil_of_le h]; rfl
theorem upTo_len {p : UInt8 → Bool} {l : List UInt8} {i : Nat} (h : i ≤ l.length) : i ≤ upTo p l i ∧ upTo p l i ≤ l.length := by
  unfold upTo
  have := (List.takeWhile_sublist p (l := l.drop i)).length_le
  rw [List.length_drop] at this
  omega
theorem upTo_sub (p : UInt8 → Bool) (l : List UInt8) (i : Nat) : upTo p l i - i = ((l.drop i).takeWhile p).length := by unfold upTo; omega
theorem takeWhile_take (p : UInt8 → Bool) (l : List UInt8) : l.takeWhile p = l.take (l.takeWhile p).length := by
  induction l with
  | nil => rfl
  | cons c r ih =>
    by_cases h : p c = true
    · rw [List.takeWhile_cons_of_pos h, List.length_cons, List.take_succ_cons, ← ih]
    · rw [List.takeWhile_cons_of_neg h]; rfl

theorem numV_add (l : List UInt8) (c : UInt8) : numV (l ++ [c]) = 10 * numV l + (c.toNat - 48) := by
  unfold numV; rw [List.foldl_append]; rfl
theorem numV_le (n : Nat) : ∀ l : List UInt8, l.length = n → numV l + 23 ≤ 23 * 10 ^ n := by
  induction n with
  | zero =>
    intro l h
    have : l = [] := List.eq_nil_of_length_eq_zero h
    subst this; decide
  | succ n ih =>
    intro l h
    have hne : l ≠ [] := fun e => by rw [e] at h; simp at h
    have e := (List.dropLast_concat_getLast hne).symm
    have h1 := ih l.dropLast (by rw [List.length_dropLast]; omega)
    have h2 := numV_add l.dropLast (l.getLast hne)
    rw [← e] at h2
    have h3 : (l.getLast hne).toNat < 256 := UInt8.toNat_lt _
    rw [Nat.pow_succ]
    omega
/-- What the first nine digits from i on, up to j, tell. -/
def numTo (l : List UInt8) (i j : Nat) : Nat := numV ((l.drop i).take (min (j - i) 9))
section
variable {l : List UInt8} {i : Nat} {c : UInt8}
theorem step_blank (h : l[i]? = some c) (q : blank c = true) : stepL (l.drop i) = .skip 1 := by
  rw [drop_at h]; unfold stepL; simp only; rw [if_pos q]
theorem step_remark (h : l[i]? = some c) (q : blank c = false) (q1 : c.toNat = 35) : stepL (l.drop i) = .skip (upTo notNl l i - i) := by
  rw [upTo_sub, drop_at h]; unfold stepL; simp only; rw [if_neg (by rw [q]; simp), if_pos q1]
theorem step_name (h : l[i]? = some c) (q : blank c = false) (q1 : ¬ c.toNat = 35) (q2 : small c = true) :
    stepL (l.drop i) = if 16 < upTo nameC l i - i then .bad else .tok (if keyB ((l.drop i).take (upTo nameC l i - i)) = true then 2 else 1) 0 (upTo nameC l i - i) := by
  rw [upTo_sub, ← takeWhile_take, drop_at h]; unfold stepL; simp only; rw [if_neg (by rw [q]; simp), if_neg q1, if_pos q2]
theorem step_num (h : l[i]? = some c) (q : blank c = false) (q1 : ¬ c.toNat = 35) (q2 : small c = false) (q3 : digit c = true) :
    stepL (l.drop i) = if 9 < upTo digit l i - i ∨ (c.toNat = 48 ∧ 1 < upTo digit l i - i) ∨ (l[upTo digit l i]?).any small = true then .bad else .tok 3 (numTo l i (upTo digit l i)) (upTo digit l i - i) := by
  have e1 : (l.drop i)[((l.drop i).takeWhile digit).length]? = l[upTo digit l i]? := by rw [List.getElem?_drop]; rfl
  have e2 : numV ((l.drop i).takeWhile digit) = numTo l i (upTo digit l i) ∨ 9 < upTo digit l i - i := by
    by_cases h9 : 9 < upTo digit l i - i
    · exact Or.inr h9
    · left
      unfold numTo
      rw [show min (upTo digit l i - i) 9 = upTo digit l i - i by omega, upTo_sub, ← takeWhile_take]
  have e3 : stepL (l.drop i) = if 9 < ((l.drop i).takeWhile digit).length ∨ (c.toNat = 48 ∧ 1 < ((l.drop i).takeWhile digit).length) ∨ ((l.drop i)[((l.drop i).takeWhile digit).length]?).any small = true then .bad else .tok 3 (numV ((l.drop i).takeWhile digit)) ((l.drop i).takeWhile digit).length := by
    conv => lhs; rw [drop_at h]
    unfold stepL
    simp only
    rw [if_neg (by rw [q]; simp), if_neg q1, if_neg (by rw [q2]; simp), if_pos q3, ← drop_at h]
  rw [e3, e1, ← upTo_sub]
  rcases e2 with e2 | e2
  · rw [e2]
  · rw [if_pos (Or.inl e2), if_pos (Or.inl e2)]
theorem step_two (h : l[i]? = some c) (q : blank c = false) (q1 : ¬ c.toNat = 35) (q2 : small c = false) (q3 : digit c = false) {d : UInt8} (hd : l[i + 1]? = some d) (q4 : double c d = true) : stepL (l.drop i) = .tok 4 0 2 := by
  rw [drop_at h]; unfold stepL; simp only
  rw [if_neg (by rw [q]; simp), if_neg q1, if_neg (by rw [q2]; simp), if_neg (by rw [q3]; simp), if_pos (by rw [List.getElem?_drop, Nat.add_zero, hd]; exact q4)]
theorem step_one (h : l[i]? = some c) (q : blank c = false) (q1 : ¬ c.toNat = 35) (q2 : small c = false) (q3 : digit c = false) (q4 : (l[i + 1]?).any (double c) = false) : stepL (l.drop i) = if single c = true then .tok 4 0 1 else .bad := by
  rw [drop_at h]; unfold stepL; simp only
  rw [if_neg (by rw [q]; simp), if_neg q1, if_neg (by rw [q2]; simp), if_neg (by rw [q3]; simp), if_neg (by rw [List.getElem?_drop, Nat.add_zero, q4]; simp)]
end
end Go.Proofs.YtkljakeccfnakaaGreatDoor

namespace Go.Proofs.YtkljakeccfnakaaGreatDoor

/-- What a step that tells a word says. -/
theorem tok_cases {l : List UInt8} {k v n : Nat} (h : stepL l = .tok k v n) : ∃ c r, l = c :: r ∧ blank c = false ∧ ¬ c.toNat = 35 ∧
    ((small c = true ∧ n = (l.takeWhile nameC).length ∧ n ≤ 16 ∧ v = 0 ∧ k = if keyB (l.takeWhile nameC) = true then 2 else 1) ∨
     (small c = false ∧ digit c = true ∧ n = (l.takeWhile digit).length ∧ n ≤ 9 ∧ ¬ (c.toNat = 48 ∧ 1 < n) ∧ (l[n]?).any small = false ∧ v = numV (l.takeWhile digit) ∧ k = 3) ∨
     (small c = false ∧ digit c = false ∧ (r[0]?).any (double c) = true ∧ n = 2 ∧ v = 0 ∧ k = 4) ∨
     (small c = false ∧ digit c = false ∧ (r[0]?).any (double c) = false ∧ single c = true ∧ n = 1 ∧ v = 0 ∧ k = 4)) := by
  cases l with
  | nil => simp [stepL] at h
  | cons c r =>
    unfold stepL at h
    simp only at h
    cases q0 : blank c
    · rw [q0, if_neg (by simp)] at h
      by_cases q1 : c.toNat = 35
      · rw [if_pos q1] at h; cases h
      · rw [if_neg q1] at h
        refine ⟨c, r, rfl, q0, q1, ?_⟩
        cases q2 : small c
        · rw [q2, if_neg (by simp)] at h
          cases q3 : digit c
          · rw [q3, if_neg (by simp)] at h
            cases q4 : (r[0]?).any (double c)
            · rw [q4, if_neg (by simp)] at h
              cases q5 : single c
              · rw [q5, if_neg (by simp)] at h; cases h
              · rw [q5, if_pos rfl] at h
                cases h
                exact Or.inr (Or.inr (Or.inr ⟨rfl, rfl, rfl, rfl, rfl, rfl, rfl⟩))
            · rw [q4, if_pos rfl] at h
              cases h
              exact Or.inr (Or.inr (Or.inl ⟨rfl, rfl, rfl, rfl, rfl, rfl⟩))
          · rw [q3, if_pos rfl] at h
            split at h
            · cases h
            · rename_i hb
              cases h
              refine Or.inr (Or.inl ⟨rfl, rfl, rfl, ?_, ?_, ?_, rfl, rfl⟩)
              · omega
              · omega
              · cases e : ((c :: r)[((c :: r).takeWhile digit).length]?).any small
                · rfl
                · exact absurd (Or.inr (Or.inr e)) hb
        · rw [q2, if_pos rfl] at h
          split at h
          · cases h
          · cases h
            exact Or.inl ⟨rfl, rfl, by omega, rfl, rfl⟩
    · rw [q0, if_pos rfl] at h; cases h
/-- And the other way about. -/
theorem tok_of {l r : List UInt8} {c : UInt8} {k v n : Nat} (e : l = c :: r) (q0 : blank c = false) (q1 : ¬ c.toNat = 35)
    (h : (small c = true ∧ n = (l.takeWhile nameC).length ∧ n ≤ 16 ∧ v = 0 ∧ k = if keyB (l.takeWhile nameC) = true then 2 else 1) ∨
     (small c = false ∧ digit c = true ∧ n = (l.takeWhile digit).length ∧ n ≤ 9 ∧ ¬ (c.toNat = 48 ∧ 1 < n) ∧ (l[n]?).any small = false ∧ v = numV (l.takeWhile digit) ∧ k = 3) ∨
     (small c = false ∧ digit c = false ∧ (r[0]?).any (double c) = true ∧ n = 2 ∧ v = 0 ∧ k = 4) ∨
     (small c = false ∧ digit c = false ∧ (r[0]?).any (double c) = false ∧ single c = true ∧ n = 1 ∧ v = 0 ∧ k = 4)) : stepL l = .tok k v n := by
  subst e
  unfold stepL
  simp only
  rw [if_neg (by rw [q0]; simp), if_neg q1]
  rcases h with ⟨a, b, d, e, f⟩ | ⟨a, b, d, e, f, g, i, j⟩ | ⟨a, b, d, e, f, g⟩ | ⟨a, b, d, e, f, g, i⟩
  · rw [if_pos a, if_neg (by omega), b, e, f]
  · rw [if_neg (by rw [a]; simp), if_pos b, if_neg (by rw [← d]; rintro (h | h | h) <;> first | omega | exact f h | (rw [g] at h; cases h)), d, i, j]
  · rw [if_neg (by rw [a]; simp), if_neg (by rw [b]; simp), if_pos d, e, f, g]
  · rw [if_neg (by rw [a]; simp), if_neg (by rw [b]; simp), if_neg (by rw [d]; simp), if_pos e, f, g, i]
theorem skip_cases {l : List UInt8} {n : Nat} (h : stepL l = .skip n) : ∃ c r, l = c :: r ∧ ((blank c = true ∧ n = 1) ∨ (blank c = false ∧ c.toNat = 35 ∧ n = (l.takeWhile notNl).length)) := by
  cases l with
  | nil => simp [stepL] at h
  | cons c r =>
    unfold stepL at h
    simp only at h
    refine ⟨c, r, rfl, ?_⟩
    cases q0 : blank c
    · rw [q0, if_neg (by simp)] at h
      by_cases q1 : c.toNat = 35
      · rw [if_pos q1] at h; cases h; exact Or.inr ⟨rfl, q1, rfl⟩
      · rw [if_neg q1] at h
        split at h
        · split at h <;> cases h
        · split at h
          · split at h <;> cases h
          · split at h
            · cases h
            · split at h <;> cases h
    · rw [q0, if_pos rfl] at h; cases h; exact Or.inl ⟨rfl, rfl⟩
theorem skip_of {l r : List UInt8} {c : UInt8} {n : Nat} (e : l = c :: r) (h : (blank c = true ∧ n = 1) ∨ (blank c = false ∧ c.toNat = 35 ∧ n = (l.takeWhile notNl).length)) : stepL l = .skip n := by
  subst e
  unfold stepL
  simp only
  rcases h with ⟨a, rfl⟩ | ⟨a, b, d⟩
  · rw [if_pos a]
  · rw [if_neg (by rw [a]; simp), if_pos b, d]

/-- The words of a text stand behind its beginning, and each has a byte. -/
theorem lexA_pos (f : Nat) : ∀ (l : List UInt8) (p k : Nat) (ts : List Tok), l.length ≤ f → lexA l p k = .ok ts → ∀ t ∈ ts, p ≤ t.pos ∧ 1 ≤ t.text.length ∧ t.pos + t.text.length ≤ p + l.length := by
  induction f with
  | zero =>
    intro l p k ts hf h t ht
    have : l = [] := List.eq_nil_of_length_eq_zero (by omega)
    subst this
    rw [lexA_nil] at h; cases h; cases ht
  | succ f ih =>
    intro l p k ts hf h t ht
    by_cases hne : l = []
    · subst hne; rw [lexA_nil] at h; cases h; cases ht
    · cases hs : stepL l with
      | bad => rw [lexA_bad hne hs] at h; cases h
      | skip n =>
        have hl := step_len hs
        rw [lexA_skip hs] at h
        have := ih (l.drop n) (p + n) k ts (by rw [List.length_drop]; omega) h t ht
        rw [List.length_drop] at this
        omega
      | tok kd v n =>
        have hl := tok_len hs
        by_cases hk : 1500 ≤ k
        · rw [lexA_many hs p hk] at h; cases h
        · rw [lexA_tok hs p hk] at h
          cases hr : lexA (l.drop n) (p + n) (k + 1) with
          | err c q => rw [hr] at h; cases h
          | ok us =>
            rw [hr] at h
            simp only [Res.cons, Res.ok.injEq] at h
            subst h
            rcases List.mem_cons.1 ht with rfl | ht
            · simp only [List.length_take]; omega
            · have := ih (l.drop n) (p + n) (k + 1) us (by rw [List.length_drop]; omega) hr t ht
              rw [List.length_drop] at this
              omega
theorem tw_app {p : UInt8 → Bool} {l r : List UInt8} (hr : ∀ c r', r = c :: r' → p c = false) : (l.takeWhile p ++ r).takeWhile p = l.takeWhile p := by
  rw [List.takeWhile_append_of_pos (fun c hc => List.all_eq_true.1 (List.all_takeWhile (p := p)) c hc)]
  cases r with
  | nil => simp
  | cons c r' => rw [List.takeWhile_cons_of_neg (by rw [hr c r' rfl]; simp)]; simp
end Go.Proofs.YtkljakeccfnakaaGreatDoor

namespace Go.Proofs.YtkljakeccfnakaaGreatDoor

/-- A word that was read. -/
def Good (t : Tok) : Prop := ∃ l n, stepL l = .tok t.kind t.val n ∧ t.text = l.take n
theorem lexA_good (f : Nat) : ∀ (l : List UInt8) (p k : Nat) (ts : List Tok), l.length ≤ f → lexA l p k = .ok ts → ∀ t ∈ ts, Good t := by
  induction f with
  | zero =>
    intro l p k ts hf h t ht
    have : l = [] := List.eq_nil_of_length_eq_zero (by omega)
    subst this
    rw [lexA_nil] at h; cases h; cases ht
  | succ f ih =>
    intro l p k ts hf h t ht
    by_cases hne : l = []
    · subst hne; rw [lexA_nil] at h; cases h; cases ht
    · cases hs : stepL l with
      | bad => rw [lexA_bad hne hs] at h; cases h
      | skip n =>
        have hl := step_len hs
        rw [lexA_skip hs] at h
        exact ih (l.drop n) (p + n) k ts (by rw [List.length_drop]; omega) h t ht
      | tok kd v n =>
        have hl := tok_len hs
        by_cases hk : 1500 ≤ k
        · rw [lexA_many hs p hk] at h; cases h
        · rw [lexA_tok hs p hk] at h
          cases hr : lexA (l.drop n) (p + n) (k + 1) with
          | err c q => rw [hr] at h; cases h
          | ok us =>
            rw [hr] at h
            simp only [Res.cons, Res.ok.injEq] at h
            subst h
            rcases List.mem_cons.1 ht with rfl | ht
            · exact ⟨l, n, hs, rfl⟩
            · exact ih (l.drop n) (p + n) (k + 1) us (by rw [List.length_drop]; omega) hr t ht

theorem skip_blank1 {c : UInt8} (h : blank c = true) (u : List UInt8) (p k : Nat) : lexA (c :: u) p k = lexA u (p + 1) k := by
  rw [lexA_skip (skip_of rfl (Or.inl ⟨h, rfl⟩))]; rfl
/-- Between two words: blanks and remarks; told is whether a remark is under way behind it. -/
def gapF : Bool → List UInt8 → Option Bool
  | r, [] => some r
  | r, c :: l => if (r || decide (c.toNat = 35)) = false ∧ blank c = false then none else gapF (if c.toNat = 10 then false else (r || decide (c.toNat = 35))) l
theorem gap_app (l m : List UInt8) : ∀ {r r' : Bool}, gapF r l = some r' → gapF r (l ++ m) = gapF r' m := by
  induction l with
  | nil => intro r r' h; simp only [gapF, Option.some.injEq] at h; rw [← h]; rfl
  | cons c l ih =>
    intro r r' h
    have e : ∀ x : List UInt8, gapF r (c :: x) = if (r || decide (c.toNat = 35)) = false ∧ blank c = false then none else gapF (if c.toNat = 10 then false else (r || decide (c.toNat = 35))) x := fun _ => rfl
    rw [List.cons_append, e]
    rw [e] at h
    split at h
    · cases h
    · rename_i hc
      rw [if_neg hc]; exact ih h
theorem gap_blank {c : UInt8} {r : Bool} (h : blank c = true) (hr : r = false ∨ c.toNat = 10) (l : List UInt8) : gapF r (c :: l) = gapF false l := by
  unfold blank at h
  simp only [Bool.or_eq_true, decide_eq_true_iff] at h
  have h35 : ¬ c.toNat = 35 := by omega
  have hb : blank c = true := by unfold blank; simp only [Bool.or_eq_true, decide_eq_true_iff]; omega
  conv => lhs; unfold gapF
  rw [if_neg (by rw [hb]; simp)]
  by_cases h10 : c.toNat = 10
  · rw [if_pos h10]
  · rw [if_neg h10]
    rcases hr with rfl | hr
    · simp [h35]
    · exact absurd hr h10
theorem gap_in (l : List UInt8) : gapF true (l.takeWhile notNl) = some true := by
  induction l with
  | nil => rfl
  | cons c l ih =>
    by_cases h : notNl c = true
    · rw [List.takeWhile_cons_of_pos h]
      have h10 : ¬ c.toNat = 10 := by unfold notNl at h; simpa using h
      unfold gapF
      rw [if_neg (by simp), if_neg h10]; simpa using ih
    · rw [List.takeWhile_cons_of_neg h]; rfl
theorem gap_remark {c : UInt8} {l : List UInt8} (h : c.toNat = 35) : gapF false ((c :: l).takeWhile notNl) = some true := by
  have hn : notNl c = true := by unfold notNl; simp [h]
  rw [List.takeWhile_cons_of_pos hn]
  unfold gapF
  rw [if_neg (by simp [h]), if_neg (by omega)]
  simpa [h] using gap_in l

/-- Words and what stands between them. -/
def Gaps : Bool → List UInt8 → Nat → List Tok → Prop
  | r, l, _, [] => ∃ x, gapF r l = some x
  | r, l, p, t :: ts => ∃ m, t.pos = p + m ∧ m + t.text.length ≤ l.length ∧ gapF r (l.take m) = some false ∧ t.text = (l.drop m).take t.text.length ∧ 1 ≤ t.text.length ∧ Gaps false (l.drop (m + t.text.length)) (t.pos + t.text.length) ts
theorem gaps_ahead {g l : List UInt8} {r r' : Bool} {p : Nat} {ts : List Tok} (h : gapF r g = some r') (hg : Gaps r' l (p + g.length) ts) : Gaps r (g ++ l) p ts := by
  cases ts with
  | nil => obtain ⟨x, hx⟩ := hg; exact ⟨x, by rw [gap_app _ _ h]; exact hx⟩
  | cons t ts =>
    obtain ⟨m, h1, h2, h3, h4, h5, h6⟩ := hg
    refine ⟨g.length + m, by omega, by rw [List.length_append]; omega, ?_, ?_, h5, ?_⟩
    · rw [List.take_length_add_append, gap_app _ _ h]; exact h3
    · rw [List.drop_length_add_append]; exact h4
    · rw [Nat.add_assoc, List.drop_length_add_append]; exact h6
theorem lexA_gaps (f : Nat) : ∀ (l : List UInt8) (p k : Nat) (ts : List Tok) (r : Bool), l.length ≤ f → lexA l p k = .ok ts → (r = true → l = [] ∨ ∃ c l', l = c :: l' ∧ c.toNat = 10) → Gaps r l p ts := by
  induction f with
  | zero =>
    intro l p k ts r hf h hr
    have : l = [] := List.eq_nil_of_length_eq_zero (by omega)
    subst this
    rw [lexA_nil] at h; cases h; exact ⟨r, rfl⟩
  | succ f ih =>
    intro l p k ts r hf h hr
    by_cases hne : l = []
    · subst hne; rw [lexA_nil] at h; cases h; exact ⟨r, rfl⟩
    · cases hs : stepL l with
      | bad => rw [lexA_bad hne hs] at h; cases h
      | skip n =>
        have hl := step_len hs
        rw [lexA_skip hs] at h
        obtain ⟨c, l', e, hc⟩ := skip_cases hs
        rcases hc with ⟨hb, rfl⟩ | ⟨hb, h35, hn⟩
        · have hg := ih (l.drop 1) (p + 1) k ts false (by rw [List.length_drop]; omega) h (fun h => by cases h)
          have h10 : r = false ∨ c.toNat = 10 := by
            cases r with
            | false => exact Or.inl rfl
            | true =>
              rcases hr rfl with hr | ⟨c', l'', hr, h10⟩
              · exact absurd hr hne
              · rw [e] at hr; cases hr; exact Or.inr h10
          have hg' : Gaps r ([c] ++ l.drop 1) p ts := gaps_ahead (r' := false) (by rw [gap_blank hb h10]; rfl) hg
          rw [e] at hg' ⊢; exact hg'
        · have hrf : r = false := by
            cases r with
            | false => rfl
            | true =>
              rcases hr rfl with hr | ⟨c', l'', hr, h10⟩
              · exact absurd hr hne
              · rw [e] at hr; cases hr; omega
          subst hrf
          have hx : ∀ m : List UInt8, ((m.drop (m.takeWhile notNl).length) = [] ∨ ∃ c l', (m.drop (m.takeWhile notNl).length) = c :: l' ∧ c.toNat = 10) := by
            intro m
            induction m with
            | nil => exact Or.inl rfl
            | cons x m ihm =>
              by_cases hxx : notNl x = true
              · rw [List.takeWhile_cons_of_pos hxx, List.length_cons, List.drop_succ_cons]; exact ihm
              · rw [List.takeWhile_cons_of_neg hxx]
                right; exact ⟨x, m, rfl, by unfold notNl at hxx; simpa using hxx⟩
          have hg := ih (l.drop n) (p + n) k ts true (by rw [List.length_drop]; omega) h (fun _ => by rw [hn]; exact hx l)
          have ht : l.takeWhile notNl ++ l.drop n = l := by rw [takeWhile_take, ← hn, List.take_append_drop]
          have hg' : Gaps false (l.takeWhile notNl ++ l.drop n) p ts := gaps_ahead (r' := true) (by rw [e]; exact gap_remark h35) (by rw [← hn]; exact hg)
          rw [ht] at hg'; exact hg'
      | tok kd v n =>
        have hl := tok_len hs
        obtain ⟨c, l', e, q0, _⟩ := tok_cases hs
        have hrf : r = false := by
          cases r with
          | false => rfl
          | true =>
            rcases hr rfl with hr | ⟨c', l'', hr, h10⟩
            · exact absurd hr hne
            · rw [e] at hr; cases hr
              unfold blank at q0; simp [h10] at q0
        subst hrf
        by_cases hk : 1500 ≤ k
        · rw [lexA_many hs p hk] at h; cases h
        · rw [lexA_tok hs p hk] at h
          cases hr : lexA (l.drop n) (p + n) (k + 1) with
          | err c q => rw [hr] at h; cases h
          | ok us =>
            rw [hr] at h
            simp only [Res.cons, Res.ok.injEq] at h
            subst h
            have len : (l.take n).length = n := by rw [List.length_take]; omega
            refine ⟨0, rfl, by rw [len]; omega, rfl, by rw [len]; rfl, by rw [len]; exact hl.1, ?_⟩
            show Gaps false (l.drop (0 + (l.take n).length)) (p + (l.take n).length) us
            rw [len, Nat.zero_add]
            exact ih (l.drop n) (p + n) (k + 1) us false (by rw [List.length_drop]; omega) hr (fun h => by cases h)
end Go.Proofs.YtkljakeccfnakaaGreatDoor
