/-
  The walks of Of, of the infinities, and of the fixed answers that are asked ahead of each statement.
-/
import Derived.Test.YtmagldelgnkkfaaB
import Derived.Test.YtmagldelgnkkfaaC
import Derived.Laws.NewFold
namespace Go.Proofs.Ytmagldelgnkkfaa
open Go.RowKit

/-- The NaN that a quotient without an answer draws. -/
def drawnNaN (w : World) : Nat := (Question.nanBits .f64 0 0).cut (w.tape w.drawn (.nanBits .f64 0 0))
theorem drawn_nan (w : World) : nanB (drawnNaN w) = true ∧ drawnNaN w < 18446744073709551616 := by
  unfold drawnNaN
  generalize w.tape w.drawn (.nanBits .f64 0 0) = t
  show nanB (t % 2 * 2 ^ 63 + 0x7ff0000000000000 + 1 + t / 2 % (2 ^ 52 - 1)) = true ∧ t % 2 * 2 ^ 63 + 0x7ff0000000000000 + 1 + t / 2 % (2 ^ 52 - 1) < _
  rw [show (2 : Nat) ^ 52 - 1 = 4503599627370495 by decide, show (2 : Nat) ^ 63 = 9223372036854775808 by decide]
  have h1 : t / 2 % 4503599627370495 < 4503599627370495 := Nat.mod_lt _ (by omega)
  have h2 : t % 2 = 0 ∨ t % 2 = 1 := by omega
  generalize t / 2 % 4503599627370495 = u at *
  generalize t % 2 = v at *
  unfold nanB rng
  rw [decide_eq_true_iff]
  rcases h2 with rfl | rfl <;> omega
theorem quo_none (w : World) : (binOp .quo 24 (.float .f64 0) (.float .f64 0)).run Try.prog w = .ok (.float .f64 (drawnNaN w)) w.drew := by
  have e : FloatKind.f64.format.div 0 0 = none := by decide
  simp [binOp, Op.floatArith, e]
  rfl

set_option maxHeartbeats 1000000 in
theorem of_some (a b : Int) (q : Nat) (h : floatBits .quo .f64 (floatOfInt .f64 a) (floatOfInt .f64 b) = some q) (w : World) :
    Calls Try.prog 12 #[.int .i64 a, .int .i64 b] w fun e w' => e = .returned (.float .f64 q) ∧ w' = w := by
  have hr := fun w => run_float_arith (P := Try.prog) w .quo 24 .f64 _ _ q h
  go_enter Try.func12, Try.ntmps12
  go_wp2
  go_ret
  exact ⟨rfl, rfl⟩
set_option maxHeartbeats 1000000 in
theorem of_none (w : World) :
    Calls Try.prog 12 #[.int .i64 0, .int .i64 0] w fun e w' => e = .returned (.float .f64 (drawnNaN w)) ∧ w' = w.drew := by
  have hr := quo_none
  have h0 := of_zero
  go_enter Try.func12, Try.ntmps12
  go_wp2
  go_ret
  exact ⟨rfl, rfl⟩
set_option maxHeartbeats 1000000 in
theorem inf_any (s : Int) (w : World) :
    Calls Try.prog 13 #[.int .i64 s] w fun e w' => e = .returned (.float .f64 (if s < 0 then 18442240474082181120 else 9218868437227405312)) ∧ w' = w := by
  have hb := frombits_run 9218868437227405312
  have hc := frombits_run 18442240474082181120
  by_cases c : 0 ≤ s
  · rw [if_neg (by omega)]
    go_enter Try.func13, Try.ntmps13
    go_wp2
    go_ret
    exact ⟨rfl, rfl⟩
  · rw [if_pos (by omega)]
    go_enter Try.func13, Try.ntmps13
    go_wp2
    go_ret
    exact ⟨rfl, rfl⟩
theorem half : floatBits .quo .f64 (floatOfInt .f64 1) (floatOfInt .f64 2) = some 4602678819172646912 := by decide
theorem least31 {r : Int} (h : LeastOf [4613937818241073152, 4607182418800017408] 0 2 r) : r = 1 := by
  refine h.same ?_
  refine Or.inr ⟨1, rfl, by omega, by omega, fun j _ hj => ?_, fun j _ hj => ?_⟩
  · have : j = 0 ∨ j = 1 := by omega
    rcases this with rfl | rfl <;> decide
  · have : j = 0 := by omega
    subst this; decide

theorem least_pair (w : World) :
    Calls Try.prog 18 #[.slice (some ⟨w.heap.size, 0, none⟩) 2 2] (w.alloc (.cells #[.float .f64 4613937818241073152, .float .f64 4607182418800017408] 24)) fun e w' => e = .returned (.int .i64 1) ∧ w' = w.alloc (.cells #[.float .f64 4613937818241073152, .float .f64 4607182418800017408] 24) := by
  refine (least_any _ [4613937818241073152, 4607182418800017408] _ ⟨fun i => ?_, by decide, _, 2, rfl, Or.inr ⟨w.heap.size, 0, rfl, by simp, fun i hi => ?_⟩⟩).mono ?_
  · match i with
    | 0 => decide
    | 1 => decide
    | i + 2 => show (0 : Nat) < _; omega
  · have : i = 0 ∨ i = 1 := by simp only [List.length_cons, List.length_nil] at hi; omega
    rcases this with rfl | rfl <;> simp
  · rintro e w' ⟨⟨r, rfl, h⟩, rfl⟩
    rw [least31 h]
    exact ⟨rfl, rfl⟩

set_option maxHeartbeats 4000000 in
theorem awake_any (w : World) :
    Calls Try.prog 8 #[] w fun e w' => e = .returned (.bool true) ∧ Below w.heap.size w w' := by
  have h1 : (FloatKind.f64.format.order 4602678819172646912 4602678819172646912 == some Ordering.eq) = true := by decide
  have h2 : lessB 4607182418800017408 4611686018427387904 = true := by decide
  go_enter Try.func8, Try.ntmps8
  go_wp2_with (first | (go_at_call 12; refine (of_some _ _ _ half _).mono ?_; rintro e w' ⟨rfl, rfl⟩) | (go_at_call 10; refine (less_any _ _ (by omega) (by omega) _).mono ?_; rintro e w' ⟨rfl, rfl⟩) | (go_at_call 18; refine (least_pair _).mono ?_; rintro e w' ⟨rfl, rfl⟩))
  go_ret
  exact ⟨rfl, (Below.refl _ _).alloc (Nat.le_refl _) _⟩

set_option maxHeartbeats 4000000 in
theorem weightLess_any (a b : Nat) (ha : a < 18446744073709551616) (hb : b < 18446744073709551616) (w : World) :
    Calls Try.prog 3 #[.int .u64 (a : Int), .int .u64 (b : Int)] w fun e w' => e = .returned (.bool true) ∧ Below w.heap.size w w' := by
  have h1 : ∀ w : World, (callFunc 9 #[.int .u64 (a : Int)]).run Try.prog w = .ok (.value (.float .f64 a)) w := frombits_run a
  have h2 : ∀ w : World, (callFunc 9 #[.int .u64 (b : Int)]).run Try.prog w = .ok (.value (.float .f64 b)) w := frombits_run b
  go_enter Try.func3, Try.ntmps3
  go_wp2_with (first | (go_at_call 8; refine (awake_any _).mono ?_; rintro e w' ⟨rfl, hw⟩) | (go_at_call 10; refine (less_any _ _ (by assumption) (by assumption) _).mono ?_; rintro e w' ⟨rfl, rfl⟩) | (go_at_call 11; refine (refRank_any _ (by assumption) _).mono ?_; rintro e w' ⟨rfl, rfl⟩))
  go_ret
  refine ⟨ret_bool ?_, hw⟩
  unfold lessB
  simp
end Go.Proofs.Ytmagldelgnkkfaa
