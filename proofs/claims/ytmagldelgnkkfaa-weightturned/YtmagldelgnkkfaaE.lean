/-
  The walks of the statements on the order, on signs turned and on quotients.
-/
import Derived.Test.YtmagldelgnkkfaaD
namespace Go.Proofs.Ytmagldelgnkkfaa
open Go.RowKit

theorem less_anti {a b : Nat} (h : lessB a b = true) : lessB b a = false := by
  unfold lessB at *; rw [decide_eq_true_iff] at h; rw [decide_eq_false_iff_not]; omega
theorem less_irr (a : Nat) : lessB a a = false := by unfold lessB; simp
theorem less_nan {a b : Nat} (h : nanB b = true) : lessB a b = false := by unfold lessB; rw [rank_nan h]; simp
theorem less_trans {a b c : Nat} (h : lessB a b = true) (g : lessB b c = true) : lessB a c = true := by
  unfold lessB at *; rw [decide_eq_true_iff] at *; omega
theorem less_none {a b : Nat} (ha : a < 18446744073709551616) (hb : b < 18446744073709551616) (h : lessB a b = false) (g : lessB b a = false) : a = b ∨ nanB a = true ∧ nanB b = true := by
  unfold lessB at *; rw [decide_eq_false_iff_not] at *
  cases na : nanB a
  · exact Or.inl (rank_same ha hb na (by omega))
  · cases nb : nanB b
    · have := rank_pos hb nb; rw [rank_nan na] at *; omega
    · exact Or.inr ⟨rfl, rfl⟩

theorem self_t {a : Nat} (h : nanB a = true) : (FloatKind.f64.format.order a a != some Ordering.eq) = true := (f64_self a).trans h
theorem self_f {a : Nat} (h : nanB a = false) : (FloatKind.f64.format.order a a != some Ordering.eq) = false := (f64_self a).trans h

set_option maxHeartbeats 4000000 in
theorem weightOrder_any (a b c : Nat) (ha : a < 18446744073709551616) (hb : b < 18446744073709551616) (hc : c < 18446744073709551616) (w : World) :
    Calls Try.prog 4 #[.int .u64 (a : Int), .int .u64 (b : Int), .int .u64 (c : Int)] w fun e w' => e = .returned (.bool true) ∧ Below w.heap.size w w' := by
  have h1 : ∀ w : World, (callFunc 9 #[.int .u64 (a : Int)]).run Try.prog w = .ok (.value (.float .f64 a)) w := frombits_run a
  have h2 : ∀ w : World, (callFunc 9 #[.int .u64 (b : Int)]).run Try.prog w = .ok (.value (.float .f64 b)) w := frombits_run b
  have h3 : ∀ w : World, (callFunc 9 #[.int .u64 (c : Int)]).run Try.prog w = .ok (.value (.float .f64 c)) w := frombits_run c
  cases hx : lessB a b
  · cases hy : lessB b a
    · rcases less_none ha hb hx hy with e | ⟨na, nb⟩
      · subst e
        go_enter Try.func4, Try.ntmps4
        go_wp2_with (first | (go_at_call 8; refine (awake_any _).mono ?_; rintro e w' ⟨rfl, hw⟩) | (go_at_call 10; refine (less_any _ _ (by assumption) (by assumption) _).mono ?_; rintro e w' ⟨rfl, rfl⟩))
        go_ret
        exact ⟨ret_bool (by rfl), hw⟩
      · by_cases e : a = b
        · subst e
          go_enter Try.func4, Try.ntmps4
          go_wp2_with (first | (go_at_call 8; refine (awake_any _).mono ?_; rintro e w' ⟨rfl, hw⟩) | (go_at_call 10; refine (less_any _ _ (by assumption) (by assumption) _).mono ?_; rintro e w' ⟨rfl, rfl⟩))
          go_ret
          exact ⟨ret_bool (by rfl), hw⟩
        · have e' : ((a : Int) == (b : Int)) = false := by rw [beq_eq_false_iff_ne]; omega
          have q1 := self_t na
          have q2 := self_t nb
          go_enter Try.func4, Try.ntmps4
          go_wp2_with (first | (go_at_call 8; refine (awake_any _).mono ?_; rintro e w' ⟨rfl, hw⟩) | (go_at_call 10; refine (less_any _ _ (by assumption) (by assumption) _).mono ?_; rintro e w' ⟨rfl, rfl⟩))
          go_ret
          exact ⟨ret_bool (by rfl), hw⟩
    · have e' : ((a : Int) == (b : Int)) = false := by
        rw [beq_eq_false_iff_ne]; intro e
        have : a = b := by omega
        subst this; rw [less_irr] at hy; cases hy
      have na : nanB a = false := by
        cases na : nanB a
        · rfl
        · rw [less_nan na] at hy; cases hy
      have q1 := self_f na
      go_enter Try.func4, Try.ntmps4
      go_wp2_with (first | (go_at_call 8; refine (awake_any _).mono ?_; rintro e w' ⟨rfl, hw⟩) | (go_at_call 10; refine (less_any _ _ (by assumption) (by assumption) _).mono ?_; rintro e w' ⟨rfl, rfl⟩))
      go_ret
      exact ⟨ret_bool (by rfl), hw⟩
  · have hy := less_anti hx
    have e' : ((a : Int) == (b : Int)) = false := by
      rw [beq_eq_false_iff_ne]; intro e
      have : a = b := by omega
      subst this; rw [less_irr] at hx; cases hx
    have nb : nanB b = false := by
      cases nb : nanB b
      · rfl
      · rw [less_nan nb] at hx; cases hx
    have q2 := self_f nb
    cases hz : lessB b c
    · cases na : nanB a
      · have q1 := self_f na
        go_enter Try.func4, Try.ntmps4
        go_wp2_with (first | (go_at_call 8; refine (awake_any _).mono ?_; rintro e w' ⟨rfl, hw⟩) | (go_at_call 10; refine (less_any _ _ (by assumption) (by assumption) _).mono ?_; rintro e w' ⟨rfl, rfl⟩))
        go_ret
        exact ⟨ret_bool (by rfl), hw⟩
      · have q1 := self_t na
        go_enter Try.func4, Try.ntmps4
        go_wp2_with (first | (go_at_call 8; refine (awake_any _).mono ?_; rintro e w' ⟨rfl, hw⟩) | (go_at_call 10; refine (less_any _ _ (by assumption) (by assumption) _).mono ?_; rintro e w' ⟨rfl, rfl⟩))
        go_ret
        exact ⟨ret_bool (by rfl), hw⟩
    · have hac := less_trans hx hz
      cases na : nanB a
      · have q1 := self_f na
        go_enter Try.func4, Try.ntmps4
        go_wp2_with (first | (go_at_call 8; refine (awake_any _).mono ?_; rintro e w' ⟨rfl, hw⟩) | (go_at_call 10; refine (less_any _ _ (by assumption) (by assumption) _).mono ?_; rintro e w' ⟨rfl, rfl⟩))
        go_ret
        exact ⟨ret_bool (by rfl), hw⟩
      · have q1 := self_t na
        go_enter Try.func4, Try.ntmps4
        go_wp2_with (first | (go_at_call 8; refine (awake_any _).mono ?_; rintro e w' ⟨rfl, hw⟩) | (go_at_call 10; refine (less_any _ _ (by assumption) (by assumption) _).mono ?_; rintro e w' ⟨rfl, rfl⟩))
        go_ret
        exact ⟨ret_bool (by rfl), hw⟩

theorem nan_turn {x : Nat} (h : x < 18446744073709551616) : nanB (turn x) = nanB x := by
  have : rng (turn x) = rng x := by unfold turn rng; split <;> omega
  unfold nanB; rw [this]
theorem rank_turn {x : Nat} (h : x < 18446744073709551616) (n : nanB x = false) : rank (turn x) + rank x = 18446744073709551615 := by
  have nt := nan_turn h
  rw [n] at nt
  unfold rank
  rw [n, nt, sgn_dec h, sgn_dec (turn_lt h)]
  unfold turn
  by_cases c : x < 9223372036854775808
  · have c1 : ¬ 9223372036854775808 ≤ x := by omega
    have c2 : 9223372036854775808 ≤ x + 9223372036854775808 := by omega
    simp only [c, c1, c2, if_true, decide_true, decide_false, Bool.false_eq_true, if_false]
    omega
  · have c1 : 9223372036854775808 ≤ x := by omega
    have c2 : ¬ 9223372036854775808 ≤ x - 9223372036854775808 := by omega
    simp only [c, c1, c2, if_true, decide_true, decide_false, Bool.false_eq_true, if_false]
    omega
theorem less_turn {a b : Nat} (ha : a < 18446744073709551616) (hb : b < 18446744073709551616) (na : nanB a = false) (nb : nanB b = false) : lessB (turn b) (turn a) = lessB a b := by
  have e1 := rank_turn ha na
  have e2 := rank_turn hb nb
  unfold lessB
  rw [Bool.eq_iff_iff, decide_eq_true_iff, decide_eq_true_iff]
  omega

set_option maxHeartbeats 4000000 in
theorem weightTurned_any (a b : Nat) (ha : a < 18446744073709551616) (hb : b < 18446744073709551616) (w : World) :
    Calls Try.prog 7 #[.int .u64 (a : Int), .int .u64 (b : Int)] w fun e w' => e = .returned (.bool true) ∧ Below w.heap.size w w' := by
  have h1 : ∀ w : World, (callFunc 9 #[.int .u64 (a : Int)]).run Try.prog w = .ok (.value (.float .f64 a)) w := frombits_run a
  have h2 : ∀ w : World, (callFunc 9 #[.int .u64 (b : Int)]).run Try.prog w = .ok (.value (.float .f64 b)) w := frombits_run b
  have ia := less_irr a
  have ib := less_irr b
  cases na : nanB a
  · have q1 := self_f na
    cases nb : nanB b
    · have q2 := self_f nb
      have t1 := bits_turn ha
      have t2 := bits_turn hb
      have h3 : ∀ w : World, (callFunc 9 #[.int .u64 ((turn a : Nat) : Int)]).run Try.prog w = .ok (.value (.float .f64 (turn a))) w := frombits_run _
      have h4 : ∀ w : World, (callFunc 9 #[.int .u64 ((turn b : Nat) : Int)]).run Try.prog w = .ok (.value (.float .f64 (turn b))) w := frombits_run _
      have l1 := turn_lt ha
      have l2 := turn_lt hb
      have lt := less_turn ha hb na nb
      generalize turn a = u at *
      generalize turn b = v at *
      go_enter Try.func7, Try.ntmps7
      go_wp2_with (first | (go_at_call 8; refine (awake_any _).mono ?_; rintro e w' ⟨rfl, hw⟩) | (go_at_call 10; refine (less_any _ _ (by assumption) (by assumption) _).mono ?_; rintro e w' ⟨rfl, rfl⟩))
      go_ret
      exact ⟨ret_bool (by simp), hw⟩
    · have q2 := self_t nb
      go_enter Try.func7, Try.ntmps7
      go_wp2_with (first | (go_at_call 8; refine (awake_any _).mono ?_; rintro e w' ⟨rfl, hw⟩) | (go_at_call 10; refine (less_any _ _ (by assumption) (by assumption) _).mono ?_; rintro e w' ⟨rfl, rfl⟩))
      go_ret
      exact ⟨ret_bool (by rfl), hw⟩
  · have q1 := self_t na
    go_enter Try.func7, Try.ntmps7
    go_wp2_with (first | (go_at_call 8; refine (awake_any _).mono ?_; rintro e w' ⟨rfl, hw⟩) | (go_at_call 10; refine (less_any _ _ (by assumption) (by assumption) _).mono ?_; rintro e w' ⟨rfl, rfl⟩))
    go_ret
    exact ⟨ret_bool (by rfl), hw⟩

theorem same_t {a : Nat} (h : nanB a = false) : (FloatKind.f64.format.order a a == some Ordering.eq) = true := by
  rw [show (FloatKind.f64.format.order a a == some Ordering.eq) = !nanB a from eql_self a, h]; rfl

set_option maxHeartbeats 4000000 in
theorem weightOf_any (a b : Int) (ha : -9223372036854775808 ≤ a ∧ a ≤ 9223372036854775807) (hb : -9223372036854775808 ≤ b ∧ b ≤ 9223372036854775807) (w : World) :
    Calls Try.prog 5 #[.int .i64 a, .int .i64 b] w fun e w' => e = .returned (.bool true) ∧ Below w.heap.size w w' := by
  have ha' : a.natAbs ≤ 9223372036854775808 := by omega
  have hb' : b.natAbs ≤ 9223372036854775808 := by omega
  by_cases b0 : b = 0
  · subst b0
    by_cases a0 : a = 0
    · subst a0
      have hr := quo_none
      have h0 := of_zero
      clear ha hb ha' hb'
      go_enter Try.func5, Try.ntmps5
      go_wp2_with (first | (go_at_call 8; refine (awake_any _).mono ?_; rintro e w' ⟨rfl, hw⟩) | (go_at_call 12; refine (of_none _).mono ?_; rintro e w2 ⟨rfl, rfl⟩; have q := self_t (drawn_nan w').1))
      go_ret
      exact ⟨ret_bool (by rfl), hw.drew.drew⟩
    · have hd := div_inf ha' a0
      have hr := fun w => run_float_arith (P := Try.prog) w .quo 24 .f64 _ _ _ hd
      have a0' : (a == 0) = false := by rw [beq_eq_false_iff_ne]; exact a0
      by_cases an : a < 0
      · rw [if_pos an] at hd hr
        have ap : ¬ (0 < a) := by omega
        have q : (FloatKind.f64.format.order 18442240474082181120 18442240474082181120 == some Ordering.eq) = true := by decide
        go_enter Try.func5, Try.ntmps5
        go_wp2_with (first | (go_at_call 8; refine (awake_any _).mono ?_; rintro e w' ⟨rfl, hw⟩) | (go_at_call 12; refine (of_some _ _ _ hd _).mono ?_; rintro e w2 ⟨rfl, rfl⟩) | (go_at_call 13; refine (inf_any _ _).mono ?_; rintro e w2 ⟨rfl, rfl⟩))
        go_ret
        exact ⟨ret_bool (by rfl), hw⟩
      · rw [if_neg an] at hd hr
        have ap : 0 < a := by omega
        have q : (FloatKind.f64.format.order 9218868437227405312 9218868437227405312 == some Ordering.eq) = true := by decide
        go_enter Try.func5, Try.ntmps5
        go_wp2_with (first | (go_at_call 8; refine (awake_any _).mono ?_; rintro e w' ⟨rfl, hw⟩) | (go_at_call 12; refine (of_some _ _ _ hd _).mono ?_; rintro e w2 ⟨rfl, rfl⟩) | (go_at_call 13; refine (inf_any _ _).mono ?_; rintro e w2 ⟨rfl, rfl⟩))
        go_ret
        exact ⟨ret_bool (by rfl), hw⟩
  · obtain ⟨q, hd, hn, hq⟩ := div_ok ha' hb' b0
    have hr := fun w => run_float_arith (P := Try.prog) w .quo 24 .f64 _ _ _ hd
    have b0' : (b == 0) = false := by rw [beq_eq_false_iff_ne]; exact b0
    have hs := same_t hn
    have hb := bits_run q
    go_enter Try.func5, Try.ntmps5
    go_wp2_with (first | (go_at_call 8; refine (awake_any _).mono ?_; rintro e w' ⟨rfl, hw⟩) | (go_at_call 12; refine (of_some _ _ _ hd _).mono ?_; rintro e w2 ⟨rfl, rfl⟩))
    go_ret
    exact ⟨ret_bool (by rfl), hw⟩
end Go.Proofs.Ytmagldelgnkkfaa
