/-
  Plain facts on the words of a text: where they stand, what a cut leaves, how they are read again; no program is named here.
-/
import Derived.Test.YtjhjfmmhcpmcbaaDoorN
namespace Go.Proofs.YtjhjfmmhcpmcbaaDoor

/-- What a step that tells a word says. -/
theorem tok_cases {l : List UInt8} {k v n : Nat} (h : stepL l = .tok k v n) : ∃ c r, l = c :: r ∧ blank c = false ∧ ¬ c.toNat = 35 ∧
    ((small c = true ∧ n = (l.takeWhile nameC).length ∧ n ≤ 16 ∧ v = 0 ∧ k = if keyB (l.takeWhile nameC) = true then 2 else 1) ∨
     (small c = false ∧ digit c = true ∧ n = (l.takeWhile digit).length ∧ n ≤ 9 ∧ ¬ (c.toNat = 48 ∧ 1 < n) ∧ (l[n]?).any small = false ∧ v = numV (l.takeWhile digit) ∧ k = 3) ∨
     (small c = false ∧ digit c = false ∧ (r[0]?).any (double c) = true ∧ n = 2 ∧ v = 0 ∧ k = 4) ∨
     (small c = false ∧ digit c = false ∧ (r[0]?).any (double c) = false ∧ single c = true ∧ n = 1 ∧ v = 0 ∧ k = 4)) := by
  cases l with
  | nil => simp [stepL] at h
  | cons c r =>
    unfold stepL at h
    simp only at h
    cases q0 : blank c
    · rw [q0, if_neg (by simp)] at h
      by_cases q1 : c.toNat = 35
      · rw [if_pos q1] at h; cases h
      · rw [if_neg q1] at h
        refine ⟨c, r, rfl, q0, q1, ?_⟩
        cases q2 : small c
        · rw [q2, if_neg (by simp)] at h
          cases q3 : digit c
          · rw [q3, if_neg (by simp)] at h
            cases q4 : (r[0]?).any (double c)
            · rw [q4, if_neg (by simp)] at h
              cases q5 : single c
              · rw [q5, if_neg (by simp)] at h; cases h
              · rw [q5, if_pos rfl] at h
                cases h
                exact Or.inr (Or.inr (Or.inr ⟨rfl, rfl, rfl, rfl, rfl, rfl, rfl⟩))
            · rw [q4, if_pos rfl] at h
              cases h
              exact Or.inr (Or.inr (Or.inl ⟨rfl, rfl, rfl, rfl, rfl, rfl⟩))
          · rw [q3, if_pos rfl] at h
            split at h
            · cases h
            · rename_i hb
              cases h
              refine Or.inr (Or.inl ⟨rfl, rfl, rfl, ?_, ?_, ?_, rfl, rfl⟩)
              · omega
              · omega
              · cases e : ((c :: r)[((c :: r).takeWhile digit).length]?).any small
                · rfl
                · exact absurd (Or.inr (Or.inr e)) hb
        · rw [q2, if_pos rfl] at h
          split at h
          · cases h
          · cases h
            exact Or.inl ⟨rfl, rfl, by omega, rfl, rfl⟩
    · rw [q0, if_pos rfl] at h; cases h
/-- And the other way about. -/
theorem tok_of {l r : List UInt8} {c : UInt8} {k v n : Nat} (e : l = c :: r) (q0 : blank c = false) (q1 : ¬ c.toNat = 35)
    (h : (small c = true ∧ n = (l.takeWhile nameC).length ∧ n ≤ 16 ∧ v = 0 ∧ k = if keyB (l.takeWhile nameC) = true then 2 else 1) ∨
     (small c = false ∧ digit c = true ∧ n = (l.takeWhile digit).length ∧ n ≤ 9 ∧ ¬ (c.toNat = 48 ∧ 1 < n) ∧ (l[n]?).any small = false ∧ v = numV (l.takeWhile digit) ∧ k = 3) ∨
     (small c = false ∧ digit c = false ∧ (r[0]?).any (double c) = true ∧ n = 2 ∧ v = 0 ∧ k = 4) ∨
     (small c = false ∧ digit c = false ∧ (r[0]?).any (double c) = false ∧ single c = true ∧ n = 1 ∧ v = 0 ∧ k = 4)) : stepL l = .tok k v n := by
  subst e
  unfold stepL
  simp only
  rw [if_neg (by rw [q0]; simp), if_neg q1]
  rcases h with ⟨a, b, d, e, f⟩ | ⟨a, b, d, e, f, g, i, j⟩ | ⟨a, b, d, e, f, g⟩ | ⟨a, b, d, e, f, g, i⟩
  · rw [if_pos a, if_neg (by omega), b, e, f]
  · rw [if_neg (by rw [a]; simp), if_pos b, if_neg (by rw [← d]; rintro (h | h | h) <;> first | omega | exact f h | (rw [g] at h; cases h)), d, i, j]
  · rw [if_neg (by rw [a]; simp), if_neg (by rw [b]; simp), if_pos d, e, f, g]
  · rw [if_neg (by rw [a]; simp), if_neg (by rw [b]; simp), if_neg (by rw [d]; simp), if_pos e, f, g, i]
theorem skip_cases {l : List UInt8} {n : Nat} (h : stepL l = .skip n) : ∃ c r, l = c :: r ∧ ((blank c = true ∧ n = 1) ∨ (blank c = false ∧ c.toNat = 35 ∧ n = (l.takeWhile notNl).length)) := by
  cases l with
  | nil => simp [stepL] at h
  | cons c r =>
    unfold stepL at h
    simp only at h
    refine ⟨c, r, rfl, ?_⟩
    cases q0 : blank c
    · rw [q0, if_neg (by simp)] at h
      by_cases q1 : c.toNat = 35
      · rw [if_pos q1] at h; cases h; exact Or.inr ⟨rfl, q1, rfl⟩
      · rw [if_neg q1] at h
        split at h
        · split at h <;> cases h
        · split at h
          · split at h <;> cases h
          · split at h
            · cases h
            · split at h <;> cases h
    · rw [q0, if_pos rfl] at h; cases h; exact Or.inl ⟨rfl, rfl⟩
theorem skip_of {l r : List UInt8} {c : UInt8} {n : Nat} (e : l = c :: r) (h : (blank c = true ∧ n = 1) ∨ (blank c = false ∧ c.toNat = 35 ∧ n = (l.takeWhile notNl).length)) : stepL l = .skip n := by
  subst e
  unfold stepL
  simp only
  rcases h with ⟨a, rfl⟩ | ⟨a, b, d⟩
  · rw [if_pos a]
  · rw [if_neg (by rw [a]; simp), if_pos b, d]

theorem tw_take {p : UInt8 → Bool} (l : List UInt8) : ∀ {k : Nat}, (l.takeWhile p).length ≤ k → (l.take k).takeWhile p = l.takeWhile p := by
  induction l with
  | nil => intro k _; simp
  | cons c r ih =>
    intro k h
    by_cases hc : p c = true
    · rw [List.takeWhile_cons_of_pos hc, List.length_cons] at h
      cases k with
      | zero => omega
      | succ k => rw [List.take_succ_cons, List.takeWhile_cons_of_pos hc, List.takeWhile_cons_of_pos hc, ih (by omega)]
    · rw [List.takeWhile_cons_of_neg hc]
      cases k with
      | zero => simp
      | succ k => rw [List.take_succ_cons, List.takeWhile_cons_of_neg hc]
theorem any_take {p : UInt8 → Bool} {l : List UInt8} {n k : Nat} (h : (l[n]?).any p = false) : ((l.take k)[n]?).any p = false := by
  by_cases c : n < k
  · rw [List.getElem?_take_of_lt c]; exact h
  · rw [List.getElem?_take_eq_none (by omega)]; rfl
/-- A text that is cut behind a word has that word. -/
theorem tok_cut {l : List UInt8} {kd v n k : Nat} (h : stepL l = .tok kd v n) (hk : n ≤ k) : stepL (l.take k) = .tok kd v n := by
  have hl := tok_len h
  obtain ⟨c, r, e, q0, q1, hc⟩ := tok_cases h
  obtain ⟨k', rfl⟩ : ∃ k', k = k' + 1 := ⟨k - 1, by omega⟩
  have e' : l.take (k' + 1) = c :: r.take k' := by rw [e, List.take_succ_cons]
  refine tok_of e' q0 q1 ?_
  rcases hc with ⟨a, b, d, f, g⟩ | ⟨a, b, d, f, g, i, j, m⟩ | ⟨a, b, d, f, g, i⟩ | ⟨a, b, d, f, g, i, j⟩
  · left; rw [tw_take l (by omega)]; exact ⟨a, b, d, f, g⟩
  · right; left; rw [tw_take l (by omega)]; exact ⟨a, b, d, f, g, any_take i, j, m⟩
  · right; right; left
    refine ⟨a, b, ?_, f, g, i⟩
    rw [List.getElem?_take_of_lt (by omega)]; exact d
  · right; right; right
    exact ⟨a, b, any_take d, f, g, i, j⟩
theorem skip_cut {l : List UInt8} {n k : Nat} (h : stepL l = .skip n) (hk : n < k) : stepL (l.take k) = .skip n := by
  obtain ⟨c, r, e, hc⟩ := skip_cases h
  obtain ⟨k', rfl⟩ : ∃ k', k = k' + 1 := ⟨k - 1, by omega⟩
  have e' : l.take (k' + 1) = c :: r.take k' := by rw [e, List.take_succ_cons]
  refine skip_of e' ?_
  rcases hc with h | ⟨a, b, d⟩
  · exact Or.inl h
  · right; rw [tw_take l (by omega)]; exact ⟨a, b, d⟩

/-- The words of a text stand behind its beginning, and each has a byte. -/
theorem lexA_pos (f : Nat) : ∀ (l : List UInt8) (p k : Nat) (ts : List Tok), l.length ≤ f → lexA l p k = .ok ts → ∀ t ∈ ts, p ≤ t.pos ∧ 1 ≤ t.text.length ∧ t.pos + t.text.length ≤ p + l.length := by
  induction f with
  | zero =>
    intro l p k ts hf h t ht
    have : l = [] := List.eq_nil_of_length_eq_zero (by omega)
    subst this
    rw [lexA_nil] at h; cases h; cases ht
  | succ f ih =>
    intro l p k ts hf h t ht
    by_cases hne : l = []
    · subst hne; rw [lexA_nil] at h; cases h; cases ht
    · cases hs : stepL l with
      | bad => rw [lexA_bad hne hs] at h; cases h
      | skip n =>
        have hl := step_len hs
        rw [lexA_skip hs] at h
        have := ih (l.drop n) (p + n) k ts (by rw [List.length_drop]; omega) h t ht
        rw [List.length_drop] at this
        omega
      | tok kd v n =>
        have hl := tok_len hs
        by_cases hk : 1500 ≤ k
        · rw [lexA_many hs p hk] at h; cases h
        · rw [lexA_tok hs p hk] at h
          cases hr : lexA (l.drop n) (p + n) (k + 1) with
          | err c q => rw [hr] at h; cases h
          | ok us =>
            rw [hr] at h
            simp only [Res.cons, Res.ok.injEq] at h
            subst h
            rcases List.mem_cons.1 ht with rfl | ht
            · simp only [List.length_take]; omega
            · have := ih (l.drop n) (p + n) (k + 1) us (by rw [List.length_drop]; omega) hr t ht
              rw [List.length_drop] at this
              omega
/-- Cut behind a word, a text has just the words up to there. -/
theorem lexA_cut (f : Nat) : ∀ (l : List UInt8) (p k : Nat) (ts : List Tok) (n : Nat) (t : Tok), l.length ≤ f → lexA l p k = .ok ts → ts[n]? = some t →
    lexA (l.take (t.pos + t.text.length - p)) p k = .ok (ts.take (n + 1)) := by
  induction f with
  | zero =>
    intro l p k ts n t hf h ht
    have : l = [] := List.eq_nil_of_length_eq_zero (by omega)
    subst this
    rw [lexA_nil] at h; cases h; simp at ht
  | succ f ih =>
    intro l p k ts n t hf h ht
    have hp := lexA_pos _ l p k ts (Nat.le_refl _) h t (List.mem_of_getElem? ht)
    by_cases hne : l = []
    · subst hne; rw [lexA_nil] at h; cases h; simp at ht
    · cases hs : stepL l with
      | bad => rw [lexA_bad hne hs] at h; cases h
      | skip m =>
        have hl := step_len hs
        rw [lexA_skip hs] at h
        have hp' := lexA_pos _ _ (p + m) k ts (Nat.le_refl _) h t (List.mem_of_getElem? ht)
        have := ih (l.drop m) (p + m) k ts n t (by rw [List.length_drop]; omega) h ht
        rw [lexA_skip (skip_cut hs (show m < t.pos + t.text.length - p by omega)), List.drop_take, ← this]
        congr 2
        omega
      | tok kd v m =>
        have hl := tok_len hs
        by_cases hk : 1500 ≤ k
        · rw [lexA_many hs p hk] at h; cases h
        · rw [lexA_tok hs p hk] at h
          cases hr : lexA (l.drop m) (p + m) (k + 1) with
          | err c q => rw [hr] at h; cases h
          | ok us =>
            rw [hr] at h
            simp only [Res.cons, Res.ok.injEq] at h
            subst h
            cases n with
            | zero =>
              simp only [List.getElem?_cons_zero, Option.some.injEq] at ht
              subst ht
              have e : p + (l.take m).length - p = m := by rw [List.length_take]; omega
              show lexA (l.take (p + (l.take m).length - p)) p k = _
              rw [e, lexA_tok (tok_cut hs (Nat.le_refl _)) p hk]
              have e2 : (l.take m).drop m = [] := List.drop_eq_nil_of_le (by rw [List.length_take]; omega)
              rw [e2, lexA_nil, List.take_take, Nat.min_self]
              rfl
            | succ n =>
              simp only [List.getElem?_cons_succ] at ht
              have hp' := lexA_pos _ _ (p + m) (k + 1) us (Nat.le_refl _) hr t (List.mem_of_getElem? ht)
              have := ih (l.drop m) (p + m) (k + 1) us n t (by rw [List.length_drop]; omega) hr ht
              rw [lexA_tok (tok_cut hs (show m ≤ t.pos + t.text.length - p by omega)) p hk, List.drop_take, show t.pos + t.text.length - p - m = t.pos + t.text.length - (p + m) by omega, this, List.take_take, Nat.min_eq_left (show m ≤ t.pos + t.text.length - p by omega)]
              rfl

/-- What may stand behind a word that is written alone. -/
def Apart (r : List UInt8) : Prop := r = [] ∨ ∃ c r', r = c :: r' ∧ (c.toNat = 32 ∨ c.toNat = 10 ∨ c.toNat = 35 ∨ c.toNat = 13)
theorem tw_app {p : UInt8 → Bool} {l r : List UInt8} (hr : ∀ c r', r = c :: r' → p c = false) : (l.takeWhile p ++ r).takeWhile p = l.takeWhile p := by
  rw [List.takeWhile_append_of_pos (fun c hc => List.all_eq_true.1 (List.all_takeWhile (p := p)) c hc)]
  cases r with
  | nil => simp
  | cons c r' => rw [List.takeWhile_cons_of_neg (by rw [hr c r' rfl]; simp)]; simp
/-- Written alone, a word is read as it was. -/
theorem tok_alone {l : List UInt8} {kd v n : Nat} (h : stepL l = .tok kd v n) {r : List UInt8} (hr : Apart r) : stepL (l.take n ++ r) = .tok kd v n := by
  have hl := tok_len h
  obtain ⟨c, l', e, q0, q1, hc⟩ := tok_cases h
  obtain ⟨n', rfl⟩ : ∃ n', n = n' + 1 := ⟨n - 1, by omega⟩
  have sep : ∀ d r', r = d :: r' → small d = false ∧ digit d = false ∧ ∀ x, double x d = false := by
    intro d r' hd
    rcases hr with hr | ⟨d', r'', hr, hd'⟩
    · rw [hr] at hd; cases hd
    · rw [hr] at hd
      obtain ⟨rfl, rfl⟩ := List.cons.inj hd
      refine ⟨?_, ?_, fun x => ?_⟩
      · unfold small; rw [Bool.and_eq_false_iff, decide_eq_false_iff_not, decide_eq_false_iff_not]; omega
      · unfold digit; rw [Bool.and_eq_false_iff, decide_eq_false_iff_not, decide_eq_false_iff_not]; omega
      · unfold double
        simp only [Bool.or_eq_false_iff, Bool.and_eq_false_iff, decide_eq_false_iff_not]
        omega
  have len : (l.take (n' + 1)).length = n' + 1 := by rw [List.length_take]; omega
  have e' : l.take (n' + 1) ++ r = c :: (l'.take n' ++ r) := by rw [e, List.take_succ_cons]; rfl
  refine tok_of e' q0 q1 ?_
  rcases hc with ⟨a, b, d, f, g⟩ | ⟨a, b, d, f, g, i, j, m⟩ | ⟨a, b, d, f, g, i⟩ | ⟨a, b, d, f, g, i, j⟩
  · left
    have t : (l.take (n' + 1) ++ r).takeWhile nameC = l.takeWhile nameC := by
      rw [b, ← takeWhile_take]; exact tw_app fun x r' hx => by have := sep x r' hx; unfold nameC; rw [this.1, this.2.1]; rfl
    rw [t]; exact ⟨a, b, d, f, g⟩
  · right; left
    have t : (l.take (n' + 1) ++ r).takeWhile digit = l.takeWhile digit := by
      rw [d, ← takeWhile_take]; exact tw_app fun x r' hx => (sep x r' hx).2.1
    rw [t]
    refine ⟨a, b, d, f, g, ?_, j, m⟩
    rw [List.getElem?_append_right (by omega), len, Nat.sub_self]
    cases r with
    | nil => rfl
    | cons x r' => exact (sep x r' rfl).1
  · right; right; left
    refine ⟨a, b, ?_, f, g, i⟩
    have : 1 ≤ (l'.take n').length := by rw [e] at hl; simp only [List.length_cons] at hl; rw [List.length_take]; omega
    rw [List.getElem?_append_left (by omega), List.getElem?_take_of_lt (by omega)]; exact d
  · right; right; right
    refine ⟨a, b, ?_, f, g, i, j⟩
    have hn : n' = 0 := by omega
    subst hn
    rw [List.take_zero, List.nil_append]
    cases r with
    | nil => rfl
    | cons x r' => exact (sep x r' rfl).2.2 c
end Go.Proofs.YtjhjfmmhcpmcbaaDoor
