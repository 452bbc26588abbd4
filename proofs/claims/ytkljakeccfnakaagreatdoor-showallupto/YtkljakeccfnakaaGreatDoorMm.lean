/-
  The words of a text, in plain Lean: one step at the front of a list of bytes, and all steps; no program is named here.
  The walks of the document's own small functions of layer 4.
  Names, and the walk of the document's own answer for them.
  Plain facts on what is read in a row: how far bytes of a kind go, what digits tell, and which step stands at a place; no program is named here.
  Plain facts on the words of a text: where they stand, what a cut leaves, how they are read again; no program is named here.
  Plain facts on the words of a text: written again with something between; what stands between them; names; no program is named here.
-/
import Derived.WalkKit
import Derived.Test.YtkljakeccfnakaaGreatDoorProg
import Derived.WalkSpells
import Derived.WalkLawsBesides
import Derived.Deep.QuietTactic
import Derived.BigQuiet
import Derived.Lib.Strings
namespace Go.Proofs.YtkljakeccfnakaaGreatDoor

def small (c : UInt8) : Bool := decide (97 ≤ c.toNat) && decide (c.toNat ≤ 122)
def digit (c : UInt8) : Bool := decide (48 ≤ c.toNat) && decide (c.toNat ≤ 57)
def blank (c : UInt8) : Bool := decide (c.toNat = 32) || decide (c.toNat = 9) || decide (c.toNat = 10) || decide (c.toNat = 13)
def single (c : UInt8) : Bool := decide (c.toNat = 40) || decide (c.toNat = 41) || decide (c.toNat = 93) || decide (c.toNat = 59) || decide (c.toNat = 44) || decide (c.toNat = 33) || decide (c.toNat = 124) || decide (c.toNat = 61) || decide (c.toNat = 60) || decide (c.toNat = 43) || decide (c.toNat = 45) || decide (c.toNat = 42) || decide (c.toNat = 47)
def double (a b : UInt8) : Bool := (decide (a.toNat = 58) && decide (b.toNat = 61)) || (decide (a.toNat = 60) && decide (b.toNat = 45)) || (decide (a.toNat = 45) && decide (b.toNat = 62)) || (decide (a.toNat = 46) && decide (b.toNat = 91))
def nameC (c : UInt8) : Bool := small c || digit c
def notNl (c : UInt8) : Bool := !decide (c.toNat = 10)

/-- The words of the language. -/
def keyL : List (List UInt8) := [[99, 101, 108, 108], [97, 116, 111, 109], [114, 111, 119], [100, 111, 109, 97, 105, 110], [101, 110, 100], [108, 101, 116], [105, 110], [105, 102], [116, 104, 101, 110], [101, 108, 115, 101], [102, 117, 110], [109, 97, 116, 99, 104], [119, 105, 116, 104], [110, 111, 110, 101], [115, 111, 109, 101], [116, 114, 117, 101], [102, 97, 108, 115, 101], [112, 114, 105, 110, 116], [115, 119, 97, 112], [97, 100, 100], [99, 97, 115]]
def keyB (l : List UInt8) : Bool := keyL.contains l

/-- What a row of digits tells. -/
def numV (l : List UInt8) : Nat := l.foldl (fun n c => 10 * n + (c.toNat - 48)) 0

inductive Step where
  | skip (n : Nat)
  | tok (kind val n : Nat)
  | bad
/-- One step at the front. -/
def stepL (l : List UInt8) : Step :=
  match l with
  | [] => .bad
  | c :: r =>
    if blank c = true then .skip 1
    else if c.toNat = 35 then .skip (l.takeWhile notNl).length
    else if small c = true then
      if 16 < (l.takeWhile nameC).length then .bad
      else .tok (if keyB (l.takeWhile nameC) = true then 2 else 1) 0 (l.takeWhile nameC).length
    else if digit c = true then
      if 9 < (l.takeWhile digit).length ∨ (c.toNat = 48 ∧ 1 < (l.takeWhile digit).length) ∨ (l[(l.takeWhile digit).length]?).any small = true then .bad
      else .tok 3 (numV (l.takeWhile digit)) (l.takeWhile digit).length
    else if (r[0]?).any (double c) = true then .tok 4 0 2
    else if single c = true then .tok 4 0 1
    else .bad

structure Tok where
  kind : Nat
  text : List UInt8
  val : Nat
  pos : Nat
inductive Res where
  | ok (l : List Tok)
  | err (code pos : Nat)
def Res.cons (t : Tok) : Res → Res
  | .ok l => .ok (t :: l)
  | .err c p => .err c p
/-- All steps. -/
def lexF : Nat → List UInt8 → Nat → Nat → Res
  | 0, _, _, _ => .ok []
  | f + 1, l, p, k =>
    if l = [] then .ok []
    else match stepL l with
      | .skip n => lexF f (l.drop n) (p + n) k
      | .bad => .err 10 p
      | .tok kind val n => if 1500 ≤ k then .err 15 p else (lexF f (l.drop n) (p + n) (k + 1)).cons ⟨kind, l.take n, val, p⟩
/-- The document's answer. -/
def lexT (l : List UInt8) : Res := if 8192 < l.length then .err 15 0 else lexF l.length l 0 0

theorem small_not {c : UInt8} (h : blank c = true) : small c = false ∧ digit c = false := by
  unfold blank at h; unfold small digit
  simp only [Bool.or_eq_true, decide_eq_true_iff] at h
  refine ⟨?_, ?_⟩ <;> rw [Bool.and_eq_false_iff, decide_eq_false_iff_not, decide_eq_false_iff_not] <;> omega
theorem takeWhile_pos {p : UInt8 → Bool} {c : UInt8} {r : List UInt8} (h : p c = true) : 1 ≤ ((c :: r).takeWhile p).length := by
  rw [List.takeWhile_cons_of_pos h]; simp
theorem takeWhile_le (p : UInt8 → Bool) (l : List UInt8) : (l.takeWhile p).length ≤ l.length := (List.takeWhile_sublist p).length_le
/-- A step goes on, and not beyond the end. -/
theorem step_len {l : List UInt8} {n : Nat} (h : stepL l = .skip n) : 1 ≤ n ∧ n ≤ l.length := by
  unfold stepL at h
  split at h
  · cases h
  · rename_i c r
    split at h
    · cases h; simp
    · split at h
      · rename_i h35
        cases h
        exact ⟨takeWhile_pos (by unfold notNl; simp [h35]), takeWhile_le _ _⟩
      · split at h
        · split at h <;> cases h
        · split at h
          · split at h <;> cases h
          · split at h
            · cases h
            · split at h <;> cases h
theorem tok_len {l : List UInt8} {k v n : Nat} (h : stepL l = .tok k v n) : 1 ≤ n ∧ n ≤ l.length := by
  unfold stepL at h
  split at h
  · cases h
  · rename_i c r
    split at h
    · cases h
    · split at h
      · cases h
      · split at h
        · rename_i hs
          split at h
          · cases h
          · cases h; exact ⟨takeWhile_pos (by unfold nameC; rw [hs]; rfl), takeWhile_le _ _⟩
        · split at h
          · rename_i hd
            split at h
            · cases h
            · cases h; exact ⟨takeWhile_pos hd, takeWhile_le _ _⟩
          · split at h
            · rename_i h2
              cases h
              cases r with
              | nil => simp at h2
              | cons => simp
            · split at h
              · cases h; simp
              · cases h
/-- With as many steps as there are bytes all is read. -/
theorem lexF_more (f : Nat) : ∀ (g : Nat) (l : List UInt8) (p k : Nat), l.length ≤ f → l.length ≤ g → lexF f l p k = lexF g l p k := by
  induction f with
  | zero =>
    intro g l p k h1 h2
    have : l = [] := List.eq_nil_of_length_eq_zero (by omega)
    subst this
    cases g <;> simp [lexF]
  | succ f ih =>
    intro g l p k h1 h2
    cases g with
    | zero =>
      have : l = [] := List.eq_nil_of_length_eq_zero (by omega)
      subst this; simp [lexF]
    | succ g =>
      by_cases e : l = []
      · subst e; simp [lexF]
      · unfold lexF
        rw [if_neg e, if_neg e]
        cases hs : stepL l with
        | bad => rfl
        | skip n =>
          have := step_len hs
          exact ih g _ _ _ (by rw [List.length_drop]; omega) (by rw [List.length_drop]; omega)
        | tok kd v n =>
          have := tok_len hs
          simp only
          rw [ih g _ _ _ (by rw [List.length_drop]; omega) (by rw [List.length_drop]; omega)]
def lexA (l : List UInt8) (p k : Nat) : Res := lexF l.length l p k
theorem lexA_nil (p k : Nat) : lexA [] p k = .ok [] := rfl
theorem lexA_skip {l : List UInt8} {n : Nat} (h : stepL l = .skip n) (p k : Nat) : lexA l p k = lexA (l.drop n) (p + n) k := by
  have hl := step_len h
  unfold lexA
  obtain ⟨f, hf⟩ : ∃ f, l.length = f + 1 := ⟨l.length - 1, by omega⟩
  have ne : l ≠ [] := fun e => by rw [e] at hl; simp at hl; omega
  rw [hf, lexF, if_neg ne, h]
  exact lexF_more _ _ _ _ _ (by rw [List.length_drop]; omega) (Nat.le_refl _)
theorem lexA_bad {l : List UInt8} (hl : l ≠ []) (h : stepL l = .bad) (p k : Nat) : lexA l p k = .err 10 p := by
  unfold lexA
  obtain ⟨f, hf⟩ : ∃ f, l.length = f + 1 := ⟨l.length - 1, by have := List.length_pos_iff.2 hl; omega⟩
  rw [hf, lexF, if_neg hl, h]
theorem lexA_many {l : List UInt8} {kd v n : Nat} (h : stepL l = .tok kd v n) (p : Nat) {k : Nat} (hk : 1500 ≤ k) : lexA l p k = .err 15 p := by
  have hl := tok_len h
  unfold lexA
  obtain ⟨f, hf⟩ : ∃ f, l.length = f + 1 := ⟨l.length - 1, by omega⟩
  have ne : l ≠ [] := fun e => by rw [e] at hl; simp at hl; omega
  rw [hf, lexF, if_neg ne, h]
  simp only
  rw [if_pos hk]
theorem lexA_tok {l : List UInt8} {kd v n : Nat} (h : stepL l = .tok kd v n) (p : Nat) {k : Nat} (hk : ¬ 1500 ≤ k) : lexA l p k = (lexA (l.drop n) (p + n) (k + 1)).cons ⟨kd, l.take n, v, p⟩ := by
  have hl := tok_len h
  unfold lexA
  obtain ⟨f, hf⟩ : ∃ f, l.length = f + 1 := ⟨l.length - 1, by omega⟩
  have ne : l ≠ [] := fun e => by rw [e] at hl; simp at hl; omega
  rw [hf, lexF, if_neg ne, h]
  simp only
  rw [if_neg hk, lexF_more _ (l.drop n).length _ _ _ (by rw [List.length_drop]; omega) (Nat.le_refl _)]
end Go.Proofs.YtkljakeccfnakaaGreatDoor

namespace Go.Proofs.YtkljakeccfnakaaGreatDoor
open Go.RowKit

theorem ret_int {k : IntKind} {a b : Int} (h : a = b) : Ending.returned (.int k a) = .returned (.int k b) := by rw [h]
theorem ret_bool {a b : Bool} (h : a = b) : Ending.returned (.bool a) = .returned (.bool b) := by rw [h]

def singleB (c : Int) : Bool := c == 40 || c == 41 || c == 93 || c == 59 || c == 44 || c == 33 || c == 124 || c == 61 || c == 60 || c == 43 || c == 45 || c == 42 || c == 47
theorem cast_eq (n k : Nat) : ((n : Int) == (k : Int)) = decide (n = k) := by
  rw [Bool.eq_iff_iff, beq_iff_eq, decide_eq_true_iff]; omega
/-- The words of the language in one text, a blank around each. -/
def keysL : List UInt8 := [32, 99, 101, 108, 108, 32, 97, 116, 111, 109, 32, 114, 111, 119, 32, 100, 111, 109, 97, 105, 110, 32, 101, 110, 100, 32, 108, 101, 116, 32, 105, 110, 32, 105, 102, 32, 116, 104, 101, 110, 32, 101, 108, 115, 101, 32, 102, 117, 110, 32, 109, 97, 116, 99, 104, 32, 119, 105, 116, 104, 32, 110, 111, 110, 101, 32, 115, 111, 109, 101, 32, 116, 114, 117, 101, 32, 102, 97, 108, 115, 101, 32, 112, 114, 105, 110, 116, 32, 115, 119, 97, 112, 32, 97, 100, 100, 32, 99, 97, 115, 32]
def hitAt (l : List UInt8) (i : Nat) : Prop := i + l.length + 2 ≤ 101 ∧ (keysL.drop i).take (l.length + 2) = 32 :: (l ++ [32])
def not32 (c : UInt8) : Bool := !decide (c.toNat = 32)
theorem words_all : ∀ i, i < 100 → keysL[i]? = some 32 → keyB ((keysL.drop (i + 1)).takeWhile not32) = true := by decide +kernel
theorem words_hit : ∀ l ∈ keyL, ∃ i, i < 101 ∧ i + l.length + 2 ≤ 101 ∧ (keysL.drop i).take (l.length + 2) = 32 :: (l ++ [32]) := by decide +kernel
theorem hit_key {l : List UInt8} {i : Nat} (hl : ∀ c ∈ l, not32 c = true) (h : hitAt l i) : keyB l = true := by
  obtain ⟨h1, h2⟩ := h
  have hi : i < 100 := by omega
  have hk : keysL.length = 101 := by decide
  have h0 : keysL[i]? = some 32 := by
    have : ((keysL.drop i).take (l.length + 2))[0]? = some 32 := by rw [h2]; rfl
    rwa [List.getElem?_take_of_lt (by omega), List.getElem?_drop, Nat.add_zero] at this
  have hd : keysL.drop i = 32 :: keysL.drop (i + 1) := by
    rw [List.drop_eq_getElem_cons (by omega)]
    congr 1
    rw [List.getElem?_eq_getElem (by omega)] at h0
    exact Option.some.inj h0
  rw [hd, List.take_succ_cons, List.cons.injEq] at h2
  have h3 := h2.2
  have hw := words_all i hi h0
  have e : (keysL.drop (i + 1)).takeWhile not32 = l := by
    rw [← List.take_append_drop (l.length + 1) (keysL.drop (i + 1)), h3, List.append_assoc, List.takeWhile_append_of_pos hl]
    simp [not32]
  rwa [e] at hw
theorem key_hit {l : List UInt8} (h : keyB l = true) : ∃ i, i < 101 ∧ hitAt l i := by
  unfold keyB at h
  rw [List.contains_iff_mem] at h
  obtain ⟨i, h1, h2, h3⟩ := words_hit l h
  exact ⟨i, h1, h2, h3⟩
theorem key_len {l : List UInt8} (h : keyB l = true) : 0 < l.length := by
  unfold keyB at h
  rw [List.contains_iff_mem] at h
  have : ∀ l ∈ keyL, 0 < l.length := by decide
  exact this l h
theorem hit_raw (s : ByteArray) (i : Nat) (h : i + s.size + 2 ≤ 101) : ((((⟨keysL.toArray⟩ : ByteArray).extract i (i + s.size + 2)).toList == (({ data := #[32] } : ByteArray) ++ s ++ { data := #[32] }).toList) = true) ↔ hitAt s.data.toList i := by
  rw [Lib.extract_toList, beq_iff_eq, Lib.toList_data]
  have e1 : i + s.size + 2 - i = s.data.toList.length + 2 := by rw [← Lib.size_eq]; omega
  have e2 : (({ data := #[32] } : ByteArray) ++ s ++ { data := #[32] }).data.toList = 32 :: (s.data.toList ++ [32]) := by simp
  rw [e1, e2]
  unfold hitAt
  rw [← Lib.size_eq]
  exact ⟨fun g => ⟨h, g⟩, fun g => g.2⟩

end Go.Proofs.YtkljakeccfnakaaGreatDoor

namespace Go.Proofs.YtkljakeccfnakaaGreatDoor
open Go.RowKit

/-- Is it a name? -/
def firstB (l : List UInt8) : Bool := (l[0]?).any small
def isNameB (l : List UInt8) : Bool := firstB l && l.all nameC && decide (l.length ≤ 16) && !keyB l
theorem byte_at (s : ByteArray) {i : Nat} (h : i < s.size) : ∃ c, s[i] = c ∧ s.data.toList[i]? = some c := by
  refine ⟨s[i], rfl, ?_⟩
  have h' : i < s.data.toList.length := by rw [← Lib.size_eq]; exact h
  rw [List.getElem?_eq_getElem h']
  congr 1
/-- Up to i all is as in a name. -/
def NameTo (l : List UInt8) (i : Nat) : Prop := ∀ j c, j < i → l[j]? = some c → small c = true ∨ (j ≠ 0 ∧ digit c = true)
theorem NameTo.all {l : List UInt8} (h : NameTo l l.length) : l.all nameC = true ∧ (l ≠ [] → firstB l = true) := by
  refine ⟨List.all_eq_true.2 fun c hc => ?_, fun hne => ?_⟩
  · obtain ⟨j, hj, e⟩ := List.getElem_of_mem hc
    have := h j c hj (by rw [List.getElem?_eq_getElem hj, e])
    unfold nameC
    rcases this with h | ⟨_, h⟩ <;> simp [h]
  · cases l with
    | nil => exact absurd rfl hne
    | cons c r =>
      have := h 0 c (by simp) rfl
      rcases this with h | ⟨h, _⟩
      · unfold firstB; simp [h]
      · omega
theorem NameTo.not {l : List UInt8} {i : Nat} {c : UInt8} (hi : l[i]? = some c) (h1 : small c = false) (h2 : i = 0 ∨ digit c = false) : isNameB l = false := by
  unfold isNameB
  rcases h2 with rfl | h2
  · have : firstB l = false := by unfold firstB; rw [hi]; simp [h1]
    rw [this]; rfl
  · have : l.all nameC = false := by
      rw [List.all_eq_false]
      exact ⟨c, List.mem_of_getElem? hi, by unfold nameC; simp [h1, h2]⟩
    rw [this]; simp
theorem name_not32 {c : UInt8} (h : nameC c = true) : not32 c = true := by
  unfold nameC small digit at h
  unfold not32
  simp only [Bool.or_eq_true, Bool.and_eq_true, decide_eq_true_iff] at h
  rw [Bool.not_eq_true', decide_eq_false_iff_not]
  omega

end Go.Proofs.YtkljakeccfnakaaGreatDoor

namespace Go.Proofs.YtkljakeccfnakaaGreatDoor

/-- Where bytes of a kind end, from i on. -/
def upTo (p : UInt8 → Bool) (l : List UInt8) (i : Nat) : Nat := i + ((l.drop i).takeWhile p).length
theorem drop_at {l : List UInt8} {i : Nat} {c : UInt8} (h : l[i]? = some c) : l.drop i = c :: l.drop (i + 1) := by
  obtain ⟨hi, e⟩ := List.getElem?_eq_some_iff.1 h
  rw [List.drop_eq_getElem_cons hi, e]
theorem upTo_step {p : UInt8 → Bool} {l : List UInt8} {i : Nat} {c : UInt8} (h : l[i]? = some c) (hp : p c = true) : upTo p l (i + 1) = upTo p l i := by
  unfold upTo; rw [drop_at h, List.takeWhile_cons_of_pos hp, List.length_cons]; omega
theorem upTo_stop {p : UInt8 → Bool} {l : List UInt8} {i : Nat} {c : UInt8} (h : l[i]? = some c) (hp : p c = false) : upTo p l i = i := by
  unfold upTo; rw [drop_at h, List.takeWhile_cons_of_neg (by rw [hp]; simp)]; rfl
theorem upTo_end {p : UInt8 → Bool} {l : List UInt8} {i : Nat} (h : l.length ≤ i) : upTo p l i = i := by
  unfold upTo; rw [List.drop_eq_nil_of_le h]; rfl
theorem upTo_len {p : UInt8 → Bool} {l : List UInt8} {i : Nat} (h : i ≤ l.length) : i ≤ upTo p l i ∧ upTo p l i ≤ l.length := by
  unfold upTo
  have := (List.takeWhile_sublist p (l := l.drop i)).length_le
  rw [List.length_drop] at this
  omega
theorem upTo_sub (p : UInt8 → Bool) (l : List UInt8) (i : Nat) : upTo p l i - i = ((l.drop i).takeWhile p).length := by unfold upTo; omega
theorem takeWhile_take (p : UInt8 → Bool) (l : List UInt8) : l.takeWhile p = l.take (l.takeWhile p).length := by
  induction l with
  | nil => rfl
  | cons c r ih =>
    by_cases h : p c = true
    · rw [List.takeWhile_cons_of_pos h, List.length_cons, List.take_succ_cons, ← ih]
    · rw [List.takeWhile_cons_of_neg h]; rfl

theorem numV_add (l : List UInt8) (c : UInt8) : numV (l ++ [c]) = 10 * numV l + (c.toNat - 48) := by
  unfold numV; rw [List.foldl_append]; rfl
theorem numV_le (n : Nat) : ∀ l : List UInt8, l.length = n → numV l + 23 ≤ 23 * 10 ^ n := by
  induction n with
  | zero =>
    intro l h
    have : l = [] := List.eq_nil_of_length_eq_zero h
    subst this; decide
  | succ n ih =>
    intro l h
    have hne : l ≠ [] := fun e => by rw [e] at h; simp at h
    have e := (List.dropLast_concat_getLast hne).symm
    have h1 := ih l.dropLast (by rw [List.length_dropLast]; omega)
    have h2 := numV_add l.dropLast (l.getLast hne)
    rw [← e] at h2
    have h3 : (l.getLast hne).toNat < 256 := UInt8.toNat_lt _
    rw [Nat.pow_succ]
    omega
/-- What the first nine digits from i on, up to j, tell. -/
def numTo (l : List UInt8) (i j : Nat) : Nat := numV ((l.drop i).take (min (j - i) 9))
section
variable {l : List UInt8} {i : Nat} {c : UInt8}
theorem step_blank (h : l[i]? = some c) (q : blank c = true) : stepL (l.drop i) = .skip 1 := by
  rw [drop_at h]; unfold stepL; simp only; rw [if_pos q]
theorem step_remark (h : l[i]? = some c) (q : blank c = false) (q1 : c.toNat = 35) : stepL (l.drop i) = .skip (upTo notNl l i - i) := by
  rw [upTo_sub, drop_at h]; unfold stepL; simp only; rw [if_neg (by rw [q]; simp), if_pos q1]
theorem step_name (h : l[i]? = some c) (q : blank c = false) (q1 : ¬ c.toNat = 35) (q2 : small c = true) :
    stepL (l.drop i) = if 16 < upTo nameC l i - i then .bad else .tok (if keyB ((l.drop i).take (upTo nameC l i - i)) = true then 2 else 1) 0 (upTo nameC l i - i) := by
  rw [upTo_sub, ← takeWhile_take, drop_at h]; unfold stepL; simp only; rw [if_neg (by rw [q]; simp), if_neg q1, if_pos q2]
theorem step_num (h : l[i]? = some c) (q : blank c = false) (q1 : ¬ c.toNat = 35) (q2 : small c = false) (q3 : digit c = true) :
    stepL (l.drop i) = if 9 < upTo digit l i - i ∨ (c.toNat = 48 ∧ 1 < upTo digit l i - i) ∨ (l[upTo digit l i]?).any small = true then .bad else .tok 3 (numTo l i (upTo digit l i)) (upTo digit l i - i) := by
  have e1 : (l.drop i)[((l.drop i).takeWhile digit).length]? = l[upTo digit l i]? := by rw [List.getElem?_drop]; rfl
  have e2 : numV ((l.drop i).takeWhile digit) = numTo l i (upTo digit l i) ∨ 9 < upTo digit l i - i := by
    by_cases h9 : 9 < upTo digit l i - i
    · exact Or.inr h9
    · left
      unfold numTo
      rw [show min (upTo digit l i - i) 9 = upTo digit l i - i by omega, upTo_sub, ← takeWhile_take]
  have e3 : stepL (l.drop i) = if 9 < ((l.drop i).takeWhile digit).length ∨ (c.toNat = 48 ∧ 1 < ((l.drop i).takeWhile digit).length) ∨ ((l.drop i)[((l.drop i).takeWhile digit).length]?).any small = true then .bad else .tok 3 (numV ((l.drop i).takeWhile digit)) ((l.drop i).takeWhile digit).length := by
    conv => lhs; rw [drop_at h]
    unfold stepL
    simp only
    rw [if_neg (by rw [q]; simp), if_neg q1, if_neg (by rw [q2]; simp), if_pos q3, ← drop_at h]
  rw [e3, e1, ← upTo_sub]
  rcases e2 with e2 | e2
  · rw [e2]
  · rw [if_pos (Or.inl e2), if_pos (Or.inl e2)]
theorem step_two (h : l[i]? = some c) (q : blank c = false) (q1 : ¬ c.toNat = 35) (q2 : small c = false) (q3 : digit c = false) {d : UInt8} (hd : l[i + 1]? = some d) (q4 : double c d = true) : stepL (l.drop i) = .tok 4 0 2 := by
  rw [drop_at h]; unfold stepL; simp only
  rw [if_neg (by rw [q]; simp), if_neg q1, if_neg (by rw [q2]; simp), if_neg (by rw [q3]; simp), if_pos (by rw [List.getElem?_drop, Nat.add_zero, hd]; exact q4)]
theorem step_one (h : l[i]? = some c) (q : blank c = false) (q1 : ¬ c.toNat = 35) (q2 : small c = false) (q3 : digit c = false) (q4 : (l[i + 1]?).any (double c) = false) : stepL (l.drop i) = if single c = true then .tok 4 0 1 else .bad := by
  rw [drop_at h]; unfold stepL; simp only
  rw [if_neg (by rw [q]; simp), if_neg q1, if_neg (by rw [q2]; simp), if_neg (by rw [q3]; simp), if_neg (by rw [List.getElem?_drop, Nat.add_zero, q4]; simp)]
end
end Go.Proofs.YtkljakeccfnakaaGreatDoor

namespace Go.Proofs.YtkljakeccfnakaaGreatDoor

/-- What a step that tells a word says. -/
theorem tok_cases {l : List UInt8} {k v n : Nat} (h : stepL l = .tok k v n) : ∃ c r, l = c :: r ∧ blank c = false ∧ ¬ c.toNat = 35 ∧
    ((small c = true ∧ n = (l.takeWhile nameC).length ∧ n ≤ 16 ∧ v = 0 ∧ k = if keyB (l.takeWhile nameC) = true then 2 else 1) ∨
     (small c = false ∧ digit c = true ∧ n = (l.takeWhile digit).length ∧ n ≤ 9 ∧ ¬ (c.toNat = 48 ∧ 1 < n) ∧ (l[n]?).any small = false ∧ v = numV (l.takeWhile digit) ∧ k = 3) ∨
     (small c = false ∧ digit c = false ∧ (r[0]?).any (double c) = true ∧ n = 2 ∧ v = 0 ∧ k = 4) ∨
     (small c = false ∧ digit c = false ∧ (r[0]?).any (double c) = false ∧ single c = true ∧ n = 1 ∧ v = 0 ∧ k = 4)) := by
  cases l with
  | nil => simp [stepL] at h
  | cons c r =>
    unfold stepL at h
    simp only at h
    cases q0 : blank c
    · rw [q0, if_neg (by simp)] at h
      by_cases q1 : c.toNat = 35
      · rw [if_pos q1] at h; cases h
      · rw [if_neg q1] at h
        refine ⟨c, r, rfl, q0, q1, ?_⟩
        cases q2 : small c
        · rw [q2, if_neg (by simp)] at h
          cases q3 : digit c
          · rw [q3, if_neg (by simp)] at h
            cases q4 : (r[0]?).any (double c)
            · rw [q4, if_neg (by simp)] at h
              cases q5 : single c
              · rw [q5, if_neg (by simp)] at h; cases h
              · rw [q5, if_pos rfl] at h
                cases h
                exact Or.inr (Or.inr (Or.inr ⟨rfl, rfl, rfl, rfl, rfl, rfl, rfl⟩))
            · rw [q4, if_pos rfl] at h
              cases h
              exact Or.inr (Or.inr (Or.inl ⟨rfl, rfl, rfl, rfl, rfl, rfl⟩))
          · rw [q3, if_pos rfl] at h
            split at h
            · cases h
            · rename_i hb
              cases h
              refine Or.inr (Or.inl ⟨rfl, rfl, rfl, ?_, ?_, ?_, rfl, rfl⟩)
              · omega
              · omega
              · cases e : ((c :: r)[((c :: r).takeWhile digit).length]?).any small
                · rfl
                · exact absurd (Or.inr (Or.inr e)) hb
        · rw [q2, if_pos rfl] at h
          split at h
          · cases h
          · cases h
            exact Or.inl ⟨rfl, rfl, by omega, rfl, rfl⟩
    · rw [q0, if_pos rfl] at h; cases h
/-- The words of a text stand behind its beginning, and each has a byte. -/
theorem lexA_pos (f : Nat) : ∀ (l : List UInt8) (p k : Nat) (ts : List Tok), l.length ≤ f → lexA l p k = .ok ts → ∀ t ∈ ts, p ≤ t.pos ∧ 1 ≤ t.text.length ∧ t.pos + t.text.length ≤ p + l.length := by
  induction f with
  | zero =>
    intro l p k ts hf h t ht
    have : l = [] := List.eq_nil_of_length_eq_zero (by omega)
    subst this
    rw [lexA_nil] at h; cases h; cases ht
  | succ f ih =>
    intro l p k ts hf h t ht
    by_cases hne : l = []
    · subst hne; rw [lexA_nil] at h; cases h; cases ht
    · cases hs : stepL l with
      | bad => rw [lexA_bad hne hs] at h; cases h
      | skip n =>
        have hl := step_len hs
        rw [lexA_skip hs] at h
        have := ih (l.drop n) (p + n) k ts (by rw [List.length_drop]; omega) h t ht
        rw [List.length_drop] at this
        omega
      | tok kd v n =>
        have hl := tok_len hs
        by_cases hk : 1500 ≤ k
        · rw [lexA_many hs p hk] at h; cases h
        · rw [lexA_tok hs p hk] at h
          cases hr : lexA (l.drop n) (p + n) (k + 1) with
          | err c q => rw [hr] at h; cases h
          | ok us =>
            rw [hr] at h
            simp only [Res.cons, Res.ok.injEq] at h
            subst h
            rcases List.mem_cons.1 ht with rfl | ht
            · simp only [List.length_take]; omega
            · have := ih (l.drop n) (p + n) (k + 1) us (by rw [List.length_drop]; omega) hr t ht
              rw [List.length_drop] at this
              omega
end Go.Proofs.YtkljakeccfnakaaGreatDoor

namespace Go.Proofs.YtkljakeccfnakaaGreatDoor

/-- A word that was read. -/
def Good (t : Tok) : Prop := ∃ l n, stepL l = .tok t.kind t.val n ∧ t.text = l.take n
theorem lexA_good (f : Nat) : ∀ (l : List UInt8) (p k : Nat) (ts : List Tok), l.length ≤ f → lexA l p k = .ok ts → ∀ t ∈ ts, Good t := by
  induction f with
  | zero =>
    intro l p k ts hf h t ht
    have : l = [] := List.eq_nil_of_length_eq_zero (by omega)
    subst this
    rw [lexA_nil] at h; cases h; cases ht
  | succ f ih =>
    intro l p k ts hf h t ht
    by_cases hne : l = []
    · subst hne; rw [lexA_nil] at h; cases h; cases ht
    · cases hs : stepL l with
      | bad => rw [lexA_bad hne hs] at h; cases h
      | skip n =>
        have hl := step_len hs
        rw [lexA_skip hs] at h
        exact ih (l.drop n) (p + n) k ts (by rw [List.length_drop]; omega) h t ht
      | tok kd v n =>
        have hl := tok_len hs
        by_cases hk : 1500 ≤ k
        · rw [lexA_many hs p hk] at h; cases h
        · rw [lexA_tok hs p hk] at h
          cases hr : lexA (l.drop n) (p + n) (k + 1) with
          | err c q => rw [hr] at h; cases h
          | ok us =>
            rw [hr] at h
            simp only [Res.cons, Res.ok.injEq] at h
            subst h
            rcases List.mem_cons.1 ht with rfl | ht
            · exact ⟨l, n, hs, rfl⟩
            · exact ih (l.drop n) (p + n) (k + 1) us (by rw [List.length_drop]; omega) hr t ht

end Go.Proofs.YtkljakeccfnakaaGreatDoor
