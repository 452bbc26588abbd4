/-
  Plain facts on the words of a text: written again with something between; what stands between them; names; no program is named here.
-/
import Derived.Test.YtjhjfmmhcpmcbaaDoorY
namespace Go.Proofs.YtjhjfmmhcpmcbaaDoor

/-- A word that was read. -/
def Good (t : Tok) : Prop := ∃ l n, stepL l = .tok t.kind t.val n ∧ t.text = l.take n
theorem Good.len {t : Tok} (h : Good t) : 1 ≤ t.text.length ∧ t.text.length ≤ 16 := by
  obtain ⟨l, n, hs, e⟩ := h
  have hl := tok_len hs
  obtain ⟨c, r, _, _, _, hc⟩ := tok_cases hs
  rw [e, List.length_take]
  omega
theorem lexA_good (f : Nat) : ∀ (l : List UInt8) (p k : Nat) (ts : List Tok), l.length ≤ f → lexA l p k = .ok ts → ∀ t ∈ ts, Good t := by
  induction f with
  | zero =>
    intro l p k ts hf h t ht
    have : l = [] := List.eq_nil_of_length_eq_zero (by omega)
    subst this
    rw [lexA_nil] at h; cases h; cases ht
  | succ f ih =>
    intro l p k ts hf h t ht
    by_cases hne : l = []
    · subst hne; rw [lexA_nil] at h; cases h; cases ht
    · cases hs : stepL l with
      | bad => rw [lexA_bad hne hs] at h; cases h
      | skip n =>
        have hl := step_len hs
        rw [lexA_skip hs] at h
        exact ih (l.drop n) (p + n) k ts (by rw [List.length_drop]; omega) h t ht
      | tok kd v n =>
        have hl := tok_len hs
        by_cases hk : 1500 ≤ k
        · rw [lexA_many hs p hk] at h; cases h
        · rw [lexA_tok hs p hk] at h
          cases hr : lexA (l.drop n) (p + n) (k + 1) with
          | err c q => rw [hr] at h; cases h
          | ok us =>
            rw [hr] at h
            simp only [Res.cons, Res.ok.injEq] at h
            subst h
            rcases List.mem_cons.1 ht with rfl | ht
            · exact ⟨l, n, hs, rfl⟩
            · exact ih (l.drop n) (p + n) (k + 1) us (by rw [List.length_drop]; omega) hr t ht

/-- What is written between two words. -/
def sepL (b : Nat) : List UInt8 := if b % 4 = 0 then [32] else if b % 4 = 1 then [10, 9] else if b % 4 = 2 then [35, 32, 108, 101, 116, 32, 40, 32, 48, 49, 10] else [13, 32, 32]
theorem skip_blank1 {c : UInt8} (h : blank c = true) (u : List UInt8) (p k : Nat) : lexA (c :: u) p k = lexA u (p + 1) k := by
  rw [lexA_skip (skip_of rfl (Or.inl ⟨h, rfl⟩))]; rfl
theorem sep_skip (b : Nat) (u : List UInt8) (p k : Nat) : lexA (sepL b ++ u) p k = lexA u (p + (sepL b).length) k := by
  unfold sepL
  split
  · exact skip_blank1 (by decide) u p k
  · split
    · show lexA (10 :: 9 :: u) p k = _
      rw [skip_blank1 (by decide), skip_blank1 (by decide)]; rfl
    · split
      · have e : stepL ([35, 32, 108, 101, 116, 32, 40, 32, 48, 49, 10] ++ u) = .skip 10 := by
          refine skip_of rfl (Or.inr ⟨by decide, by decide, ?_⟩)
          simp [notNl]
        rw [lexA_skip e]
        show lexA (10 :: u) (p + 10) k = _
        rw [skip_blank1 (by decide)]; rfl
      · show lexA (13 :: 32 :: 32 :: u) p k = _
        rw [skip_blank1 (by decide), skip_blank1 (by decide), skip_blank1 (by decide)]; rfl
theorem sep_apart (b : Nat) (u : List UInt8) : Apart (sepL b ++ u) := by
  right
  unfold sepL
  split
  · exact ⟨32, u, rfl, by decide⟩
  · split
    · exact ⟨10, 9 :: u, rfl, by decide⟩
    · split
      · exact ⟨35, _, rfl, by decide⟩
      · exact ⟨13, _, rfl, by decide⟩
theorem sep_len (b : Nat) : (sepL b).length ≤ 11 := by
  unfold sepL
  repeat' split
  all_goals simp
/-- Words written one behind the other, each with something ahead of it. -/
def backL (f : Nat → Nat) : List Tok → Nat → List UInt8
  | [], _ => []
  | t :: ts, i => sepL (f i) ++ (t.text ++ backL f ts (i + 1))
theorem back_apart (f : Nat → Nat) (ts : List Tok) (i : Nat) : Apart (backL f ts i) := by
  cases ts with
  | nil => exact Or.inl rfl
  | cons t ts => exact sep_apart _ _
theorem back_len (f : Nat → Nat) : ∀ (ts : List Tok) (i : Nat), (∀ t ∈ ts, Good t) → (backL f ts i).length ≤ 27 * ts.length := by
  intro ts
  induction ts with
  | nil => intro i _; exact Nat.le_refl _
  | cons t ts ih =>
    intro i h
    have h1 := (h t (by simp)).len
    have h2 := ih (i + 1) (fun x hx => h x (by simp [hx]))
    have h3 := sep_len (f i)
    show (sepL (f i) ++ (t.text ++ backL f ts (i + 1))).length ≤ _
    rw [List.length_append, List.length_append, List.length_cons]
    omega
/-- The same but for places. -/
def SameBut (ts us : List Tok) : Prop := us.length = ts.length ∧ ∀ (i : Nat) (t u : Tok), ts[i]? = some t → us[i]? = some u → u.kind = t.kind ∧ u.text = t.text ∧ u.val = t.val
theorem back_read (f : Nat → Nat) : ∀ (ts : List Tok) (i p k : Nat), (∀ t ∈ ts, Good t) → k + ts.length ≤ 1500 → ∃ us, lexA (backL f ts i) p k = .ok us ∧ SameBut ts us := by
  intro ts
  induction ts with
  | nil => intro i p k _ _; exact ⟨[], rfl, rfl, fun i t u h => by simp at h⟩
  | cons t ts ih =>
    intro i p k h hk
    rw [List.length_cons] at hk
    obtain ⟨l, n, hs, e⟩ := h t (by simp)
    have hl := tok_len hs
    have len : t.text.length = n := by rw [e, List.length_take]; omega
    have ha := tok_alone hs (back_apart f ts (i + 1))
    rw [← e] at ha
    obtain ⟨us, hu, h1, h2⟩ := ih (i + 1) (p + (sepL (f i)).length + n) (k + 1) (fun x hx => h x (by simp [hx])) (by omega)
    refine ⟨⟨t.kind, t.text, t.val, p + (sepL (f i)).length⟩ :: us, ?_, by rw [List.length_cons, List.length_cons, h1], ?_⟩
    · show lexA (sepL (f i) ++ (t.text ++ backL f ts (i + 1))) p k = _
      rw [sep_skip, lexA_tok ha _ (by omega)]
      have e1 : (t.text ++ backL f ts (i + 1)).drop n = backL f ts (i + 1) := by rw [← len, List.drop_left]
      have e2 : (t.text ++ backL f ts (i + 1)).take n = t.text := by rw [← len, List.take_left]
      rw [e1, e2, hu]; rfl
    · intro j a b ha hb
      cases j with
      | zero =>
        simp only [List.getElem?_cons_zero, Option.some.injEq] at ha hb
        subst ha hb
        exact ⟨rfl, rfl, rfl⟩
      | succ j =>
        simp only [List.getElem?_cons_succ] at ha hb
        exact h2 j a b ha hb

/-- Between two words: blanks and remarks; told is whether a remark is under way behind it. -/
def gapF : Bool → List UInt8 → Option Bool
  | r, [] => some r
  | r, c :: l => if (r || decide (c.toNat = 35)) = false ∧ blank c = false then none else gapF (if c.toNat = 10 then false else (r || decide (c.toNat = 35))) l
theorem gap_app (l m : List UInt8) : ∀ {r r' : Bool}, gapF r l = some r' → gapF r (l ++ m) = gapF r' m := by
  induction l with
  | nil => intro r r' h; simp only [gapF, Option.some.injEq] at h; rw [← h]; rfl
  | cons c l ih =>
    intro r r' h
    have e : ∀ x : List UInt8, gapF r (c :: x) = if (r || decide (c.toNat = 35)) = false ∧ blank c = false then none else gapF (if c.toNat = 10 then false else (r || decide (c.toNat = 35))) x := fun _ => rfl
    rw [List.cons_append, e]
    rw [e] at h
    split at h
    · cases h
    · rename_i hc
      rw [if_neg hc]; exact ih h
theorem gap_blank {c : UInt8} {r : Bool} (h : blank c = true) (hr : r = false ∨ c.toNat = 10) (l : List UInt8) : gapF r (c :: l) = gapF false l := by
  unfold blank at h
  simp only [Bool.or_eq_true, decide_eq_true_iff] at h
  have h35 : ¬ c.toNat = 35 := by omega
  have hb : blank c = true := by unfold blank; simp only [Bool.or_eq_true, decide_eq_true_iff]; omega
  conv => lhs; unfold gapF
  rw [if_neg (by rw [hb]; simp)]
  by_cases h10 : c.toNat = 10
  · rw [if_pos h10]
  · rw [if_neg h10]
    rcases hr with rfl | hr
    · simp [h35]
    · exact absurd hr h10
theorem gap_in (l : List UInt8) : gapF true (l.takeWhile notNl) = some true := by
  induction l with
  | nil => rfl
  | cons c l ih =>
    by_cases h : notNl c = true
    · rw [List.takeWhile_cons_of_pos h]
      have h10 : ¬ c.toNat = 10 := by unfold notNl at h; simpa using h
      unfold gapF
      rw [if_neg (by simp), if_neg h10]; simpa using ih
    · rw [List.takeWhile_cons_of_neg h]; rfl
theorem gap_remark {c : UInt8} {l : List UInt8} (h : c.toNat = 35) : gapF false ((c :: l).takeWhile notNl) = some true := by
  have hn : notNl c = true := by unfold notNl; simp [h]
  rw [List.takeWhile_cons_of_pos hn]
  unfold gapF
  rw [if_neg (by simp [h]), if_neg (by omega)]
  simpa [h] using gap_in l

/-- Words and what stands between them. -/
def Gaps : Bool → List UInt8 → Nat → List Tok → Prop
  | r, l, _, [] => ∃ x, gapF r l = some x
  | r, l, p, t :: ts => ∃ m, t.pos = p + m ∧ m + t.text.length ≤ l.length ∧ gapF r (l.take m) = some false ∧ t.text = (l.drop m).take t.text.length ∧ 1 ≤ t.text.length ∧ Gaps false (l.drop (m + t.text.length)) (t.pos + t.text.length) ts
theorem gaps_ahead {g l : List UInt8} {r r' : Bool} {p : Nat} {ts : List Tok} (h : gapF r g = some r') (hg : Gaps r' l (p + g.length) ts) : Gaps r (g ++ l) p ts := by
  cases ts with
  | nil => obtain ⟨x, hx⟩ := hg; exact ⟨x, by rw [gap_app _ _ h]; exact hx⟩
  | cons t ts =>
    obtain ⟨m, h1, h2, h3, h4, h5, h6⟩ := hg
    refine ⟨g.length + m, by omega, by rw [List.length_append]; omega, ?_, ?_, h5, ?_⟩
    · rw [List.take_length_add_append, gap_app _ _ h]; exact h3
    · rw [List.drop_length_add_append]; exact h4
    · rw [Nat.add_assoc, List.drop_length_add_append]; exact h6
theorem lexA_gaps (f : Nat) : ∀ (l : List UInt8) (p k : Nat) (ts : List Tok) (r : Bool), l.length ≤ f → lexA l p k = .ok ts → (r = true → l = [] ∨ ∃ c l', l = c :: l' ∧ c.toNat = 10) → Gaps r l p ts := by
  induction f with
  | zero =>
    intro l p k ts r hf h hr
    have : l = [] := List.eq_nil_of_length_eq_zero (by omega)
    subst this
    rw [lexA_nil] at h; cases h; exact ⟨r, rfl⟩
  | succ f ih =>
    intro l p k ts r hf h hr
    by_cases hne : l = []
    · subst hne; rw [lexA_nil] at h; cases h; exact ⟨r, rfl⟩
    · cases hs : stepL l with
      | bad => rw [lexA_bad hne hs] at h; cases h
      | skip n =>
        have hl := step_len hs
        rw [lexA_skip hs] at h
        obtain ⟨c, l', e, hc⟩ := skip_cases hs
        rcases hc with ⟨hb, rfl⟩ | ⟨hb, h35, hn⟩
        · have hg := ih (l.drop 1) (p + 1) k ts false (by rw [List.length_drop]; omega) h (fun h => by cases h)
          have h10 : r = false ∨ c.toNat = 10 := by
            cases r with
            | false => exact Or.inl rfl
            | true =>
              rcases hr rfl with hr | ⟨c', l'', hr, h10⟩
              · exact absurd hr hne
              · rw [e] at hr; cases hr; exact Or.inr h10
          have hg' : Gaps r ([c] ++ l.drop 1) p ts := gaps_ahead (r' := false) (by rw [gap_blank hb h10]; rfl) hg
          rw [e] at hg' ⊢; exact hg'
        · have hrf : r = false := by
            cases r with
            | false => rfl
            | true =>
              rcases hr rfl with hr | ⟨c', l'', hr, h10⟩
              · exact absurd hr hne
              · rw [e] at hr; cases hr; omega
          subst hrf
          have hx : ∀ m : List UInt8, ((m.drop (m.takeWhile notNl).length) = [] ∨ ∃ c l', (m.drop (m.takeWhile notNl).length) = c :: l' ∧ c.toNat = 10) := by
            intro m
            induction m with
            | nil => exact Or.inl rfl
            | cons x m ihm =>
              by_cases hxx : notNl x = true
              · rw [List.takeWhile_cons_of_pos hxx, List.length_cons, List.drop_succ_cons]; exact ihm
              · rw [List.takeWhile_cons_of_neg hxx]
                right; exact ⟨x, m, rfl, by unfold notNl at hxx; simpa using hxx⟩
          have hg := ih (l.drop n) (p + n) k ts true (by rw [List.length_drop]; omega) h (fun _ => by rw [hn]; exact hx l)
          have ht : l.takeWhile notNl ++ l.drop n = l := by rw [takeWhile_take, ← hn, List.take_append_drop]
          have hg' : Gaps false (l.takeWhile notNl ++ l.drop n) p ts := gaps_ahead (r' := true) (by rw [e]; exact gap_remark h35) (by rw [← hn]; exact hg)
          rw [ht] at hg'; exact hg'
      | tok kd v n =>
        have hl := tok_len hs
        obtain ⟨c, l', e, q0, _⟩ := tok_cases hs
        have hrf : r = false := by
          cases r with
          | false => rfl
          | true =>
            rcases hr rfl with hr | ⟨c', l'', hr, h10⟩
            · exact absurd hr hne
            · rw [e] at hr; cases hr
              unfold blank at q0; simp [h10] at q0
        subst hrf
        by_cases hk : 1500 ≤ k
        · rw [lexA_many hs p hk] at h; cases h
        · rw [lexA_tok hs p hk] at h
          cases hr : lexA (l.drop n) (p + n) (k + 1) with
          | err c q => rw [hr] at h; cases h
          | ok us =>
            rw [hr] at h
            simp only [Res.cons, Res.ok.injEq] at h
            subst h
            have len : (l.take n).length = n := by rw [List.length_take]; omega
            refine ⟨0, rfl, by rw [len]; omega, rfl, by rw [len]; rfl, by rw [len]; exact hl.1, ?_⟩
            show Gaps false (l.drop (0 + (l.take n).length)) (p + (l.take n).length) us
            rw [len, Nat.zero_add]
            exact ih (l.drop n) (p + n) (k + 1) us false (by rw [List.length_drop]; omega) hr (fun h => by cases h)
end Go.Proofs.YtjhjfmmhcpmcbaaDoor
