/-
  The document's own reader of words keeps its contract.
-/
import Derived.Test.YtlkidgilhlpjhaaDoorC
import Derived.Test.YtlkidgilhlpjhaaDoorQ
namespace Go.Proofs.YtlkidgilhlpjhaaDoor
open Go.RowKit

theorem lexA_count (f : Nat) : ∀ (l : List UInt8) (p k : Nat) (ts : List Tok), l.length ≤ f → k ≤ 1500 → lexA l p k = .ok ts → k + ts.length ≤ 1500 := by
  induction f with
  | zero =>
    intro l p k ts hf hk h
    have : l = [] := List.eq_nil_of_length_eq_zero (by omega)
    subst this
    rw [lexA_nil] at h; cases h; simpa using hk
  | succ f ih =>
    intro l p k ts hf hk h
    by_cases hne : l = []
    · subst hne; rw [lexA_nil] at h; cases h; simpa using hk
    · cases hs : stepL l with
      | bad => rw [lexA_bad hne hs] at h; cases h
      | skip n =>
        have hl := step_len hs
        rw [lexA_skip hs] at h
        exact ih (l.drop n) (p + n) k ts (by rw [List.length_drop]; omega) hk h
      | tok kd v n =>
        have hl := tok_len hs
        by_cases hk' : 1500 ≤ k
        · rw [lexA_many hs p hk'] at h; cases h
        · rw [lexA_tok hs p hk'] at h
          cases hr : lexA (l.drop n) (p + n) (k + 1) with
          | err c q => rw [hr] at h; cases h
          | ok us =>
            rw [hr] at h
            simp only [Res.cons, Res.ok.injEq] at h
            subst h
            have := ih (l.drop n) (p + n) (k + 1) us (by rw [List.length_drop]; omega) (by omega) hr
            rw [List.length_cons]; omega
theorem cellsT_at : ∀ (ts : List Tok) (j k : Nat) (t : Tok), k < 4 → ts[j]? = some t → (cellsT ts)[j * 4 + k]? = (encT t)[k]? := by
  intro ts
  induction ts with
  | nil => intro j k t _ h; simp at h
  | cons x ts ih =>
    intro j k t hk h
    show (encT x ++ cellsT ts)[j * 4 + k]? = _
    have lx : (encT x).length = 4 := rfl
    cases j with
    | zero =>
      simp only [List.getElem?_cons_zero, Option.some.injEq] at h
      subst h
      rw [List.getElem?_append_left (by omega), Nat.zero_mul, Nat.zero_add]
    | succ j =>
      simp only [List.getElem?_cons_succ] at h
      rw [List.getElem?_append_right (by omega), lx, show (j + 1) * 4 + k - 4 = j * 4 + k by omega]
      exact ih j k t hk h
theorem row_tok {w : World} {base : Nat} {v : Value} {ts : List Tok} (h : w.ownsRow base 29 4 v ts.length (cellsT ts)) (hl : ts.length ≤ 1500) : TokSl w v ts := by
  refine ⟨hl, ?_⟩
  rcases h.2 with ⟨rfl, h0⟩ | ⟨g, cap, cur, rfl, _, h3, h4, h5, h6, h7⟩
  · exact ⟨none, 0, by rw [h0], by omega, Nat.zero_le _, Or.inl (List.eq_nil_of_length_eq_zero h0)⟩
  · refine ⟨_, cap, rfl, h4, h5, ?_⟩
    right
    refine ⟨g, 0, rfl, lt_of_block h3, fun j t hj => ?_⟩
    have hjl : j < ts.length := (List.getElem?_eq_some_iff.1 hj).1
    have key : ∀ k, k < 4 → ∀ u, (encT t)[k]? = some u → w.cell? ⟨g, 0 + j * 4 + k, none⟩ = some u := by
      intro k hk u hu
      have e := cellsT_at ts j k t hk hj
      rw [hu, ← h7, List.getElem?_take_of_lt (by omega), Array.getElem?_toList] at e
      simp only [World.cell?, h3]
      rw [Nat.zero_add]; simpa using e
    exact ⟨key 0 (by omega) _ rfl, key 1 (by omega) _ rfl, key 2 (by omega) _ rfl, key 3 (by omega) _ rfl⟩
theorem nil_tok (w : World) : TokSl w (.slice none 0 0) [] := ⟨by simp, none, 0, rfl, by simp, Nat.zero_le _, Or.inl rfl⟩
end Go.Proofs.YtlkidgilhlpjhaaDoor
