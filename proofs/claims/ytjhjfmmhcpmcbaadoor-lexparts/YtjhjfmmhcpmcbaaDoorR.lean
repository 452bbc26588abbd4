/-
  The walk of the statement on names.
-/
import Derived.Test.YtjhjfmmhcpmcbaaDoorQ
namespace Go.Proofs.YtjhjfmmhcpmcbaaDoor
open Go.RowKit

theorem lexA_err (f : Nat) : ∀ (l : List UInt8) (p k c q : Nat), l.length ≤ f → lexA l p k = .err c q → (c = 10 ∨ c = 15) ∧ p ≤ q ∧ q ≤ p + l.length := by
  induction f with
  | zero =>
    intro l p k c q hf h
    have : l = [] := List.eq_nil_of_length_eq_zero (by omega)
    subst this
    rw [lexA_nil] at h; cases h
  | succ f ih =>
    intro l p k c q hf h
    by_cases hne : l = []
    · subst hne; rw [lexA_nil] at h; cases h
    · cases hs : stepL l with
      | bad => rw [lexA_bad hne hs] at h; cases h; omega
      | skip n =>
        have hl := step_len hs
        rw [lexA_skip hs] at h
        have := ih (l.drop n) (p + n) k c q (by rw [List.length_drop]; omega) h
        rw [List.length_drop] at this
        omega
      | tok kd v n =>
        have hl := tok_len hs
        by_cases hk : 1500 ≤ k
        · rw [lexA_many hs p hk] at h; cases h; omega
        · rw [lexA_tok hs p hk] at h
          cases hr : lexA (l.drop n) (p + n) (k + 1) with
          | ok us => rw [hr] at h; cases h
          | err c' q' =>
            rw [hr] at h
            cases h
            have := ih (l.drop n) (p + n) (k + 1) c q (by rw [List.length_drop]; omega) hr
            rw [List.length_drop] at this
            omega
theorem lexT_err {l : List UInt8} {c q : Nat} (h : lexT l = .err c q) : (c = 10 ∨ c = 15) ∧ q ≤ l.length := by
  unfold lexT at h
  by_cases hl : 8192 < l.length
  · rw [if_pos hl] at h; cases h; omega
  · rw [if_neg hl] at h
    have := lexA_err _ l 0 0 c q (Nat.le_refl _) h
    omega

theorem eqName (t : Tok) (s : ByteArray) (w : World) : (Op.equalIn 10000 32 (.agg #[.int .i64 t.kind, .string ⟨t.text.toArray⟩, .int .i64 t.val, .int .i64 t.pos]) (.agg #[.int .i64 1, .string s, .int .i64 0, .int .i64 0])).run Tryd.prog w = .ok (sameB t ⟨1, s.data.toList, 0, 0⟩) w := by
  have := eq32 t ⟨1, s.data.toList, 0, 0⟩ w
  rw [Lib.mk_data] at this
  exact this

set_option maxHeartbeats 4000000 in
theorem lexNames_walk (C : LexC) (s : ByteArray) (w : World) (hs : s.size ≤ 140737488351232) :
    Calls Tryd.prog 7 #[.string s] w fun e w' => e = .returned (.bool true) ∧ Below w.heap.size w w' := by
  have ca := tokens_at C s
  cases hR : lexT s.data.toList with
  | err c p =>
    rw [hR] at ca
    have hc := (lexT_err hR).1
    have c0 : ((c : Int) == 0) = false := by rw [beq_eq_false_iff_ne]; omega
    have hn : isNameB s.data.toList = false := by
      cases h : isNameB s.data.toList
      · rfl
      · have := name_lex h; rw [hR] at this; cases this
    have cn := C.isName s
    rw [hn] at cn
    clear hc hR
    have ca' : ∀ w, Calls Tryd.prog 9 #[.string s] w fun e w' => (∃ v, e = .returned (.tuple #[v, .int .i64 (c : Int), .int .i64 (p : Int)]) ∧ TokSl w' v []) ∧ Below w.heap.size w w' := fun w => ca w hs
    clear ca
    go_enter Tryd.func7, Tryd.ntmps7
    go_wp2_with (first | (go_at_call 8; refine (awake_walk C _).mono ?_; rintro e w1 ⟨rfl, hb1⟩) | (go_at_call 9; refine (ca' _).mono ?_; rintro e w2 ⟨⟨v, rfl, hv⟩, hb2⟩) | (go_at_call 12; refine (cn _ hs).mono ?_; rintro e w5 ⟨rfl, hb5⟩))
    go_ret
    exact ⟨rfl, bt (bt hb1 hb2) hb5⟩
  | ok ts =>
    rw [hR] at ca
    by_cases h1 : ts.length = 1
    · obtain ⟨t, rfl⟩ : ∃ t, ts = [t] := by
        cases ts with
        | nil => simp at h1
        | cons t r =>
          cases r with
          | nil => exact ⟨t, rfl⟩
          | cons => simp at h1
      have hn : isNameB s.data.toList = sameB t ⟨1, s.data.toList, 0, 0⟩ := by
        rw [Bool.eq_iff_iff, sameB_iff]
        constructor
        · intro h
          have := name_lex h
          rw [hR] at this
          simp only [Res.ok.injEq, List.cons.injEq, and_true] at this
          exact this
        · intro h
          rw [h] at hR
          exact lex_name hR
      have cn := C.isName s
      rw [hn] at cn
      have en := eqName t s
      have ca' : ∀ w, Calls Tryd.prog 9 #[.string s] w fun e w' => (∃ b off cap, e = .returned (.tuple #[.slice (some ⟨b, off, none⟩) 1 cap, .int .i64 0, .int .i64 0]) ∧ w'.cell? ⟨b, off, none⟩ = some (.int .i64 t.kind) ∧ w'.cell? ⟨b, off + 1, none⟩ = some (.string ⟨t.text.toArray⟩) ∧ w'.cell? ⟨b, off + 2, none⟩ = some (.int .i64 t.val) ∧ w'.cell? ⟨b, off + 3, none⟩ = some (.int .i64 t.pos)) ∧ Below w.heap.size w w' := fun w =>
        (ca w hs).mono fun e w' ⟨⟨v, he, hv⟩, hb⟩ => by
          obtain ⟨_, a, cap, rfl, _, _, h⟩ := hv
          rcases h with h | ⟨b, off, rfl, _, hc⟩
          · cases h
          · exact ⟨⟨b, off, cap, he, hc 0 t rfl⟩, hb⟩
      clear ca hR hn
      generalize sameB t ⟨1, s.data.toList, 0, 0⟩ = q at *
      go_enter Tryd.func7, Tryd.ntmps7
      go_wp2_with (first | (go_at_call 8; refine (awake_walk C _).mono ?_; rintro e w1 ⟨rfl, hb1⟩) | (go_at_call 9; refine (ca' _).mono ?_; rintro e w2 ⟨⟨b, off, cap, rfl, k0, k1, k2, k3⟩, hb2⟩) | (go_at_call 12; refine (cn _ hs).mono ?_; rintro e w5 ⟨rfl, hb5⟩))
      go_ret
      exact ⟨ret_bool (by simp), bt (bt hb1 hb2) hb5⟩
    · have c1 : ((ts.length : Int) == 1) = false := by rw [beq_eq_false_iff_ne]; omega
      have hn : isNameB s.data.toList = false := by
        cases h : isNameB s.data.toList
        · rfl
        · have := name_lex h
          rw [hR] at this
          cases this
          exact absurd rfl h1
      have cn := C.isName s
      rw [hn] at cn
      have ca' : ∀ w, Calls Tryd.prog 9 #[.string s] w fun e w' => (∃ a cap, e = .returned (.tuple #[.slice a ts.length cap, .int .i64 0, .int .i64 0])) ∧ Below w.heap.size w w' := fun w =>
        (ca w hs).mono fun e w' ⟨⟨v, he, hv⟩, hb⟩ => by
          obtain ⟨_, a, cap, rfl, _, _, h⟩ := hv
          exact ⟨⟨a, cap, he⟩, hb⟩
      clear ca hR h1
      go_enter Tryd.func7, Tryd.ntmps7
      go_wp2_with (first | (go_at_call 8; refine (awake_walk C _).mono ?_; rintro e w1 ⟨rfl, hb1⟩) | (go_at_call 9; refine (ca' _).mono ?_; rintro e w2 ⟨⟨a, cap, rfl⟩, hb2⟩) | (go_at_call 12; refine (cn _ hs).mono ?_; rintro e w5 ⟨rfl, hb5⟩))
      go_ret
      exact ⟨rfl, bt (bt hb1 hb2) hb5⟩
end Go.Proofs.YtjhjfmmhcpmcbaaDoor
