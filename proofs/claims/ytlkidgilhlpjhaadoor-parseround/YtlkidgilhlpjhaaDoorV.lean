/-
  Plain facts: a text is a name just if it is one word of that kind; no program is named here.
-/
import Derived.Test.YtlkidgilhlpjhaaDoorMm
namespace Go.Proofs.YtlkidgilhlpjhaaDoor

theorem tw_all {p : UInt8 → Bool} {l : List UInt8} (h : l.all p = true) : l.takeWhile p = l := by
  induction l with
  | nil => rfl
  | cons c r ih =>
    simp only [List.all_cons, Bool.and_eq_true] at h
    rw [List.takeWhile_cons_of_pos h.1, ih h.2]
theorem small_blank {c : UInt8} (h : small c = true) : blank c = false ∧ ¬ c.toNat = 35 := by
  unfold small at h
  simp only [Bool.and_eq_true, decide_eq_true_iff] at h
  unfold blank
  simp only [Bool.or_eq_false_iff, decide_eq_false_iff_not]
  omega
theorem name_lex {l : List UInt8} (h : isNameB l = true) : lexT l = .ok [⟨1, l, 0, 0⟩] := by
  unfold isNameB at h
  simp only [Bool.and_eq_true, decide_eq_true_iff, Bool.not_eq_true'] at h
  obtain ⟨⟨⟨h1, h2⟩, h3⟩, h4⟩ := h
  cases l with
  | nil => simp [firstB] at h1
  | cons c r =>
    have hs : small c = true := by simpa [firstB] using h1
    have hb := small_blank hs
    have ht := tw_all h2
    have st : stepL (c :: r) = .tok 1 0 (c :: r).length := by
      refine tok_of rfl hb.1 hb.2 (Or.inl ⟨hs, by rw [ht], h3, rfl, ?_⟩)
      rw [ht, h4]; rfl
    unfold lexT
    rw [if_neg (by omega)]
    show lexA (c :: r) 0 0 = _
    rw [lexA_tok st 0 (by omega), List.drop_length, lexA_nil, List.take_length]; rfl
theorem lex_name {l : List UInt8} (h : lexT l = .ok [⟨1, l, 0, 0⟩]) : isNameB l = true := by
  unfold lexT at h
  by_cases hl : 8192 < l.length
  · rw [if_pos hl] at h; cases h
  · rw [if_neg hl] at h
    have h' : lexA l 0 0 = .ok [⟨1, l, 0, 0⟩] := h
    have hne : l ≠ [] := fun e => by subst e; rw [lexA_nil] at h'; cases h'
    cases hs : stepL l with
    | bad => rw [lexA_bad hne hs] at h'; cases h'
    | skip n =>
      have hn := step_len hs
      rw [lexA_skip hs] at h'
      have := lexA_pos _ _ _ _ _ (Nat.le_refl _) h' ⟨1, l, 0, 0⟩ (by simp)
      have := this.1
      simp only at this
      omega
    | tok kd v n =>
      have hn := tok_len hs
      rw [lexA_tok hs 0 (by omega)] at h'
      cases hr : lexA (l.drop n) (0 + n) (0 + 1) with
      | err c q => rw [hr] at h'; cases h'
      | ok us =>
        rw [hr] at h'
        simp only [Res.cons, Res.ok.injEq, List.cons.injEq, Tok.mk.injEq] at h'
        obtain ⟨⟨rfl, ht, _, _⟩, _⟩ := h'
        have hnl : n = l.length := by
          have := congrArg List.length ht
          rw [List.length_take] at this; omega
        obtain ⟨c, r, e, _, _, hc⟩ := tok_cases hs
        rcases hc with ⟨a, b, d, f, g⟩ | ⟨_, _, _, _, _, _, _, hk⟩ | ⟨_, _, _, _, _, hk⟩ | ⟨_, _, _, _, _, _, hk⟩
        · have hw : l.takeWhile nameC = l := by
            rw [takeWhile_take, ← b, hnl, List.take_length]
          have hk : keyB l = false := by
            rw [hw] at g
            cases hk : keyB l
            · rfl
            · rw [hk] at g; simp at g
          unfold isNameB
          rw [hk]
          have h1 : firstB l = true := by rw [e]; simpa [firstB] using a
          have h2 : l.all nameC = true := by
            have := List.all_takeWhile (p := nameC) (l := l)
            rwa [hw] at this
          rw [h1, h2, decide_eq_true (show l.length ≤ 16 by omega)]; rfl
        · omega
        · omega
        · omega
end Go.Proofs.YtlkidgilhlpjhaaDoor
