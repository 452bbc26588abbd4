/-
  Texts that are spelt out word by word, and what is read of them; no program is named here.
-/
import Derived.Test.YtkljakeccfnakaaGreatDoorGg
import Derived.Test.YtkljakeccfnakaaGreatDoorTa
namespace Go.Proofs.YtkljakeccfnakaaGreatDoor

/-- A text and its words, without places. -/
inductive Spell : List UInt8 → List Tok → Prop
  | nil : Spell [] []
  | blank {c : UInt8} {l : List UInt8} {ts : List Tok} (h : blank c = true) (hl : Spell l ts) : Spell (c :: l) ts
  | tok {k v : Nat} {z l : List UInt8} {ts : List Tok} (h : stepL (z ++ l) = .tok k v z.length) (hl : Spell l ts) : Spell (z ++ l) (⟨k, z, v, 0⟩ :: ts)
theorem Spell.lex {l : List UInt8} {ts : List Tok} (h : Spell l ts) : ∀ p k, k ≤ 1500 → (k + ts.length ≤ 1500 → ∃ us, lexA l p k = .ok us ∧ SameL ts us) ∧ (1500 < k + ts.length → ∃ q, lexA l p k = .err 15 q) := by
  induction h with
  | nil => intro p k hk; exact ⟨fun _ => ⟨[], lexA_nil _ _, trivial⟩, fun h => by simp at h; omega⟩
  | blank h _ ih => intro p k hk; rw [skip_blank1 h]; exact ih _ _ hk
  | @tok kd v z l ts h _ ih =>
    intro p k hk
    by_cases hm : 1500 ≤ k
    · rw [lexA_many h p hm]
      exact ⟨fun h2 => by simp only [List.length_cons] at h2; omega, fun _ => ⟨p, rfl⟩⟩
    · rw [lexA_tok h p hm, List.drop_left, List.take_left]
      obtain ⟨h1, h2⟩ := ih (p + z.length) (k + 1) (by omega)
      refine ⟨fun h3 => ?_, fun h3 => ?_⟩
      · obtain ⟨us, e, hs⟩ := h1 (by simp only [List.length_cons] at h3; omega)
        rw [e]
        exact ⟨_, rfl, ⟨rfl, rfl, rfl⟩, hs⟩
      · obtain ⟨q, e⟩ := h2 (by simp only [List.length_cons] at h3; omega)
        rw [e]
        exact ⟨q, rfl⟩
theorem blank_step {c : UInt8} {l : List UInt8} (h : blank c = true) : stepL (c :: l) = .skip 1 := skip_of rfl (Or.inl ⟨h, rfl⟩)
/-- One text has one row of words. -/
theorem Spell.det {l : List UInt8} {ts : List Tok} (h : Spell l ts) : ∀ {l' : List UInt8} {us : List Tok}, Spell l' us → l' = l → SameL ts us := by
  induction h with
  | nil =>
    intro l' us h e
    cases h with
    | nil => trivial
    | blank _ _ => cases e
    | tok h _ => rw [e] at h; cases h
  | @blank c l ts hb _ ih =>
    intro l' us h e
    cases h with
    | nil => cases e
    | blank _ h2 => obtain ⟨_, rfl⟩ := List.cons.inj e; exact ih h2 rfl
    | tok h _ => rw [e, blank_step hb] at h; cases h
  | @tok k v z l ts hs _ ih =>
    intro l' us h e
    cases h with
    | nil => rw [← e] at hs; cases hs
    | blank hb _ => rw [← e, blank_step hb] at hs; cases hs
    | @tok k2 v2 z2 l2 ts2 h h2 =>
      rw [e, hs] at h
      injection h with h3 h4 h5
      obtain ⟨h6, h7⟩ := List.append_inj e h5.symm
      subst h3 h4 h6 h7
      exact ⟨⟨rfl, rfl, rfl⟩, ih h2 rfl⟩

/-- Nothing that a name or a number would go on with. -/
def Cut (r : List UInt8) : Prop := ∀ c r', r = c :: r' → nameC c = false
theorem cut_cons {c : UInt8} {r : List UInt8} (h : nameC c = false) : Cut (c :: r) := fun c' r' e => by obtain ⟨rfl, _⟩ := List.cons.inj e; exact h
theorem tw_cut {p : UInt8 → Bool} {z r : List UInt8} (hz : z.all p = true) (hr : ∀ c r', r = c :: r' → p c = false) : (z ++ r).takeWhile p = z := by
  have := tw_app (p := p) (l := z) hr
  rw [tw_all hz] at this
  exact this
theorem sp_word {z r : List UInt8} {us : List Tok} (h1 : firstB z = true) (h2 : z.all nameC = true) (h3 : z.length ≤ 16) (hr : Cut r) (h : Spell r us) : Spell (z ++ r) (⟨if keyB z = true then 2 else 1, z, 0, 0⟩ :: us) := by
  cases z with
  | nil => simp [firstB] at h1
  | cons c z =>
    have hs : small c = true := by simpa [firstB] using h1
    have hb := small_blank hs
    have ht := tw_cut h2 hr
    exact .tok (tok_of (r := z ++ r) rfl hb.1 hb.2 (Or.inl ⟨hs, by rw [ht], h3, rfl, by rw [ht]⟩)) h
theorem sp_name {z r : List UInt8} {us : List Tok} (hn : isNameB z = true) (hr : Cut r) (h : Spell r us) : Spell (z ++ r) (⟨1, z, 0, 0⟩ :: us) := by
  unfold isNameB at hn
  simp only [Bool.and_eq_true, decide_eq_true_iff, Bool.not_eq_true'] at hn
  obtain ⟨⟨⟨h1, h2⟩, h3⟩, h4⟩ := hn
  have := sp_word h1 h2 h3 hr h
  rw [h4, if_neg (by simp)] at this
  exact this
theorem sp_key (z : List UInt8) {r : List UInt8} {us : List Tok} (hk : (firstB z && z.all nameC && decide (z.length ≤ 16) && keyB z) = true) (hr : Cut r) (h : Spell r us) : Spell (z ++ r) (⟨2, z, 0, 0⟩ :: us) := by
  simp only [Bool.and_eq_true, decide_eq_true_iff] at hk
  obtain ⟨⟨⟨h1, h2⟩, h3⟩, h4⟩ := hk
  have := sp_word h1 h2 h3 hr h
  rw [h4, if_pos rfl] at this
  exact this
theorem cut_digit {r : List UInt8} (hr : Cut r) : ∀ c r', r = c :: r' → digit c = false := fun c r' e => by
  have := hr c r' e
  unfold nameC at this
  rw [Bool.or_eq_false_iff] at this
  exact this.2
theorem digit_byte {n : Nat} (h : n < 10) : digit (UInt8.ofNat (48 + n)) = true := by
  have : n = 0 ∨ n = 1 ∨ n = 2 ∨ n = 3 ∨ n = 4 ∨ n = 5 ∨ n = 6 ∨ n = 7 ∨ n = 8 ∨ n = 9 := by omega
  rcases this with rfl | rfl | rfl | rfl | rfl | rfl | rfl | rfl | rfl | rfl <;> rfl
/-- What digits are written for a number. -/
theorem dec_parts (n : Nat) : (Lib.decDigits n).all digit = true ∧ Lib.decDigits n ≠ [] ∧ numV (Lib.decDigits n) = n ∧ (∀ c, (Lib.decDigits n)[0]? = some c → c.toNat = 48 → n = 0) := by
  induction n using Nat.strongRecOn with
  | _ n ih =>
    by_cases c : n < 10
    · have e : Lib.decDigits n = [UInt8.ofNat (48 + n)] := by rw [Lib.decDigits, dif_pos c]
      have hd := digit_byte c
      have ht : (UInt8.ofNat (48 + n)).toNat = 48 + n := by simp; omega
      rw [e]
      refine ⟨by simp only [List.all_cons, List.all_nil, hd, Bool.and_true], by simp, ?_, ?_⟩
      · unfold numV; simp only [List.foldl]; rw [ht]; omega
      · intro d hd2 h48
        simp only [List.getElem?_cons_zero, Option.some.injEq] at hd2
        subst hd2; omega
    · have e : Lib.decDigits n = Lib.decDigits (n / 10) ++ [UInt8.ofNat (48 + n % 10)] := by rw [Lib.decDigits, dif_neg c]
      obtain ⟨h1, h2, h3, h4⟩ := ih (n / 10) (by omega)
      have hd := digit_byte (n := n % 10) (by omega)
      have ht : (UInt8.ofNat (48 + n % 10)).toNat = 48 + n % 10 := by simp; omega
      rw [e]
      refine ⟨by rw [List.all_append, h1]; simp only [List.all_cons, List.all_nil, hd, Bool.and_true], by simp, ?_, ?_⟩
      · rw [numV_add, h3, ht]; omega
      · intro d hd2 h48
        rw [List.getElem?_append_left (List.length_pos_iff.2 h2)] at hd2
        have := h4 d hd2 h48
        omega
theorem dec_len {n : Nat} (h : n ≤ 999999999) : (Lib.decDigits n).length ≤ 9 := by
  have : ∀ k n : Nat, n < 10 ^ (k + 1) → (Lib.decDigits n).length ≤ k + 1 := by
    intro k
    induction k with
    | zero => intro n h; rw [Lib.decDigits, dif_pos (by omega)]; simp
    | succ k ih =>
      intro n h
      rw [Lib.decDigits]
      split
      · simp
      · have := ih (n / 10) (by rw [Nat.pow_succ] at h; omega)
        simp only [List.length_append, List.length_cons, List.length_nil]; omega
  exact this 8 n (by omega)
theorem digit_other {c : UInt8} (h : digit c = true) : blank c = false ∧ ¬ c.toNat = 35 ∧ small c = false := by
  have := digit_bounds h
  refine ⟨?_, by omega, ?_⟩
  · unfold blank; simp only [Bool.or_eq_false_iff, decide_eq_false_iff_not]; omega
  · unfold small; rw [Bool.and_eq_false_iff, decide_eq_false_iff_not, decide_eq_false_iff_not]; omega
theorem sp_num {n : Nat} {r : List UInt8} {us : List Tok} (hn : n ≤ 999999999) (hr : Cut r) (h : Spell r us) : Spell (Lib.decDigits n ++ r) (⟨3, Lib.decDigits n, n, 0⟩ :: us) := by
  obtain ⟨h1, h2, h3, h4⟩ := dec_parts n
  have h9 := dec_len hn
  have ht := tw_cut h1 (cut_digit hr)
  cases e : Lib.decDigits n with
  | nil => exact absurd e h2
  | cons c z =>
    rw [e] at h1 h3 h4 h9 ht
    have hc : digit c = true := by simp only [List.all_cons, Bool.and_eq_true] at h1; exact h1.1
    obtain ⟨q0, q1, q2⟩ := digit_other hc
    refine .tok (tok_of (r := z ++ r) rfl q0 q1 (Or.inr (Or.inl ⟨q2, hc, by rw [ht], h9, ?_, ?_, by rw [ht, h3], rfl⟩))) h
    · rintro ⟨h48, hl⟩
      have := h4 c (by simp) h48
      rw [this, Lib.decDigits, dif_pos (by omega)] at e
      rw [← e] at hl; simp at hl
    · rw [List.getElem?_append_right (Nat.le_refl _), Nat.sub_self]
      cases r with
      | nil => rfl
      | cons d r' =>
        have := hr d r' rfl
        unfold nameC at this
        rw [Bool.or_eq_false_iff] at this
        exact this.1
/-- Signs of one byte that no other byte makes longer. -/
def lone (c : UInt8) : Bool := !blank c && !decide (c.toNat = 35) && !small c && !digit c && single c && !decide (c.toNat = 58) && !decide (c.toNat = 60) && !decide (c.toNat = 45) && !decide (c.toNat = 46)
theorem sp_lone {c : UInt8} {r : List UInt8} {us : List Tok} (hc : lone c = true) (h : Spell r us) : Spell (c :: r) (⟨4, [c], 0, 0⟩ :: us) := by
  unfold lone at hc
  simp only [Bool.and_eq_true, Bool.not_eq_true', decide_eq_false_iff_not] at hc
  obtain ⟨⟨⟨⟨⟨⟨⟨⟨h1, h2⟩, h3⟩, h4⟩, h5⟩, h6⟩, h7⟩, h8⟩, h9⟩ := hc
  refine Spell.tok (z := [c]) (tok_of (r := r) rfl h1 h2 (Or.inr (Or.inr (Or.inr ⟨h3, h4, ?_, h5, rfl, rfl, rfl⟩)))) h
  cases r with
  | nil => rfl
  | cons d r' =>
    show double c d = false
    unfold double
    simp [h6, h7, h8, h9]
theorem sp_apart {c : UInt8} {r : List UInt8} {us : List Tok} (hc : (!blank c && !decide (c.toNat = 35) && !small c && !digit c && single c) = true) (h : Spell (32 :: r) us) : Spell (c :: 32 :: r) (⟨4, [c], 0, 0⟩ :: us) := by
  simp only [Bool.and_eq_true, Bool.not_eq_true', decide_eq_false_iff_not] at hc
  obtain ⟨⟨⟨⟨h1, h2⟩, h3⟩, h4⟩, h5⟩ := hc
  refine Spell.tok (z := [c]) (tok_of (r := 32 :: r) rfl h1 h2 (Or.inr (Or.inr (Or.inr ⟨h3, h4, ?_, h5, rfl, rfl, rfl⟩)))) h
  show double c 32 = false
  unfold double
  simp
theorem sp_two {c d : UInt8} {r : List UInt8} {us : List Tok} (hc : (!blank c && !decide (c.toNat = 35) && !small c && !digit c && double c d) = true) (h : Spell r us) : Spell (c :: d :: r) (⟨4, [c, d], 0, 0⟩ :: us) := by
  simp only [Bool.and_eq_true, Bool.not_eq_true', decide_eq_false_iff_not] at hc
  obtain ⟨⟨⟨⟨h1, h2⟩, h3⟩, h4⟩, h5⟩ := hc
  exact Spell.tok (z := [c, d]) (tok_of (r := d :: r) rfl h1 h2 (Or.inr (Or.inr (Or.inl ⟨h3, h4, h5, rfl, rfl, rfl⟩)))) h
theorem sp_blank {r : List UInt8} {us : List Tok} (h : Spell r us) : Spell (32 :: r) us := .blank rfl h
theorem sp_line {r : List UInt8} {us : List Tok} (h : Spell r us) : Spell (10 :: r) us := .blank rfl h

/-- A sign, a word of the language, a name, a number. -/
def tS (z : List UInt8) : Tok := ⟨4, z, 0, 0⟩
def tW (z : List UInt8) : Tok := ⟨2, z, 0, 0⟩
def tN (z : List UInt8) : Tok := ⟨1, z, 0, 0⟩
def tV (n : Nat) : Tok := ⟨3, Lib.decDigits n, n, 0⟩
/-- The words of an expression's text. -/
def tkW (k : Int) (t o : List UInt8) (n : Int) (ks : List (List Tok)) : List Tok :=
  if k = 1 then [tV n.toNat] else if k = 2 then [tW (if n = 1 then [116, 114, 117, 101] else [102, 97, 108, 115, 101])] else if k = 3 then [tS [40], tS [41]] else if k = 4 then [tN t]
  else if k = 10 then [tS [33], tN t] else if k = 12 then tN t :: tS [46, 91] :: (ks.getD 0 [] ++ [tS [93]]) else if k = 18 then [tW [110, 111, 110, 101]]
  else if k = 5 then tS [40] :: tW [108, 101, 116] :: tN t :: tS [61] :: (ks.getD 0 [] ++ tW [105, 110] :: (ks.getD 1 [] ++ [tS [41]]))
  else if k = 6 then tS [40] :: tW [105, 102] :: (ks.getD 0 [] ++ tW [116, 104, 101, 110] :: (ks.getD 1 [] ++ tW [101, 108, 115, 101] :: (ks.getD 2 [] ++ [tS [41]])))
  else if k = 7 then tS [40] :: tW [102, 117, 110] :: tN t :: tS [45, 62] :: (ks.getD 0 [] ++ [tS [41]])
  else if k = 8 then tS [40] :: (ks.getD 0 [] ++ (ks.getD 1 [] ++ [tS [41]]))
  else if k = 9 then tS [40] :: (ks.getD 0 [] ++ tS [59] :: (ks.getD 1 [] ++ [tS [41]]))
  else if k = 11 then tS [40] :: tN t :: tS [58, 61] :: (ks.getD 0 [] ++ [tS [41]])
  else if k = 13 then tS [40] :: tN t :: tS [46, 91] :: (ks.getD 0 [] ++ tS [93] :: tS [60, 45] :: (ks.getD 1 [] ++ [tS [41]]))
  else if k = 14 then tS [40] :: tW [115, 119, 97, 112] :: tN t :: (ks.getD 0 [] ++ [tS [41]])
  else if k = 15 then tS [40] :: tW [97, 100, 100] :: tN t :: (ks.getD 0 [] ++ [tS [41]])
  else if k = 16 then tS [40] :: tW [99, 97, 115] :: tN t :: (ks.getD 0 [] ++ (ks.getD 1 [] ++ [tS [41]]))
  else if k = 17 then tS [40] :: tW [112, 114, 105, 110, 116] :: (ks.getD 0 [] ++ [tS [41]])
  else if k = 19 then tS [40] :: tW [115, 111, 109, 101] :: (ks.getD 0 [] ++ [tS [41]])
  else if k = 20 then tS [40] :: (ks.getD 0 [] ++ tS [44] :: (ks.getD 1 [] ++ [tS [41]]))
  else if k = 21 then tS [40] :: (ks.getD 0 [] ++ tS t :: (ks.getD 1 [] ++ [tS [41]]))
  else if k = 22 then tS [40] :: (ks.getD 0 [] ++ tS [60] :: (ks.getD 1 [] ++ [tS [41]]))
  else if k = 23 then tS [40] :: (ks.getD 0 [] ++ tS [61] :: (ks.getD 1 [] ++ [tS [41]]))
  else if k = 25 then tS [40] :: tW [109, 97, 116, 99, 104] :: (ks.getD 0 [] ++ tW [119, 105, 116, 104] :: tS [40] :: tN t :: tS [44] :: tN o :: tS [41] :: tS [45, 62] :: (ks.getD 1 [] ++ [tS [41]]))
  else if n = 1 then tS [40] :: tW [109, 97, 116, 99, 104] :: (ks.getD 0 [] ++ tW [119, 105, 116, 104] :: tW [110, 111, 110, 101] :: tS [45, 62] :: (ks.getD 1 [] ++ [tS [41]]))
  else if n = 2 then tS [40] :: tW [109, 97, 116, 99, 104] :: (ks.getD 0 [] ++ tW [119, 105, 116, 104] :: tW [115, 111, 109, 101] :: tN t :: tS [45, 62] :: (ks.getD 2 [] ++ [tS [41]]))
  else tS [40] :: tW [109, 97, 116, 99, 104] :: (ks.getD 0 [] ++ tW [119, 105, 116, 104] :: tW [110, 111, 110, 101] :: tS [45, 62] :: (ks.getD 1 [] ++ tS [124] :: tW [115, 111, 109, 101] :: tN t :: tS [45, 62] :: (ks.getD 2 [] ++ [tS [41]])))
mutual
def tkX : Px → List Tok
  | .mk k t o n _ l => tkW k t o n (tkXL l)
def tkXL : List Px → List (List Tok)
  | [] => []
  | e :: r => tkX e :: tkXL r
end
end Go.Proofs.YtkljakeccfnakaaGreatDoor
