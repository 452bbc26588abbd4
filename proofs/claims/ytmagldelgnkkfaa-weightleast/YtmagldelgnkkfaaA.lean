/-
  The walks of the small functions on floats: what each call answers; the world stays.
-/
import Derived.Test.YtmagldelgnkkfaaProg
import Derived.Test.YtmagldelgnkkfaaN
import Derived.WalkKit
import Derived.WalkSpells
import Derived.WalkLawsBesides
import Derived.Deep.QuietTactic
import Derived.BigQuiet
import Derived.Laws.Externs
namespace Go.Proofs.Ytmagldelgnkkfaa
open Go.RowKit

theorem ret_int {k : IntKind} {a b : Int} (h : a = b) : Ending.returned (.int k a) = .returned (.int k b) := by rw [h]
theorem ret_bool {a b : Bool} (h : a = b) : Ending.returned (.bool a) = .returned (.bool b) := by rw [h]
theorem ret_float {a b : Nat} (h : a = b) : Ending.returned (.float .f64 a) = .returned (.float .f64 b) := by rw [h]

/-- A float of a word, and back. -/
theorem frombits_run (n : Int) (w : World) : (callFunc 9 #[.int .u64 n]).run Try.prog w = .ok (.value (.float .f64 n.toNat)) w := by
  rw [run_callFunc_extern Try.func9 (by kernel_rfl) (by kernel_rfl) (by kernel_rfl) (e := Extern.MathFloatBits.float64frombits) (by kernel_rfl)]
  rfl
theorem bits_run (b : Nat) (w : World) : (callFunc 14 #[.float .f64 b]).run Try.prog w = .ok (.value (.int .u64 (b : Int))) w := by
  rw [run_callFunc_extern Try.func14 (by kernel_rfl) (by kernel_rfl) (by kernel_rfl) (e := Extern.MathFloatBits.float64bits) (by kernel_rfl)]
  rfl

theorem f64_eq (x y : Nat) : (FloatKind.f64.format.order x y == some Ordering.eq) = (!nanB x && !nanB y && decide (key x = key y)) := eql_eq x y
theorem f64_lt (x y : Nat) : (FloatKind.f64.format.order x y == some Ordering.lt) = (!nanB x && !nanB y && decide (key x < key y)) := lss_eq x y
theorem f64_self (x : Nat) : (FloatKind.f64.format.order x x != some Ordering.eq) = nanB x := by
  rw [bne, show (FloatKind.f64.format.order x x == some Ordering.eq) = !nanB x from eql_self x]; cases nanB x <;> rfl

set_option maxHeartbeats 400000 in
theorem isNaN_any (x : Nat) (w : World) :
    Calls Try.prog 21 #[.float .f64 x] w fun e w' => e = .returned (.bool (nanB x)) ∧ w' = w := by
  go_enter Try.func21, Try.ntmps21
  go_wp2
  go_ret
  exact ⟨ret_bool (f64_self x), rfl⟩

theorem sgn_dec {x : Nat} (h : x < 18446744073709551616) : sgn x = decide (9223372036854775808 ≤ x) := by
  unfold sgn; rw [Bool.eq_iff_iff, beq_iff_eq, decide_eq_true_iff]; omega

set_option maxHeartbeats 400000 in
theorem signbit_any (x : Nat) (h : x < 18446744073709551616) (w : World) :
    Calls Try.prog 22 #[.float .f64 x] w fun e w' => e = .returned (.bool (sgn x)) ∧ w' = w := by
  have hb := bits_run x
  have e : sgn x = decide (wrap64 (x : Int) < 0) := by
    rw [sgn_dec h, Bool.eq_iff_iff, decide_eq_true_iff, decide_eq_true_iff]
    unfold wrap64; omega
  go_enter Try.func22, Try.ntmps22
  go_wp2
  go_ret
  exact ⟨ret_bool e.symm, rfl⟩

/-- Ahead in the order. -/
def lessB (x y : Nat) : Bool := decide (rank x < rank y)

set_option maxHeartbeats 1000000 in
theorem less_any (x y : Nat) (hx : x < 18446744073709551616) (hy : y < 18446744073709551616) (w : World) :
    Calls Try.prog 10 #[.float .f64 x, .float .f64 y] w fun e w' => e = .returned (.bool (lessB x y)) ∧ w' = w := by
  cases nx : nanB x
  · cases ny : nanB y
    · have rl := rank_lt hx hy nx ny
      by_cases k : key x = key y
      · have q : (FloatKind.f64.format.order x y == some Ordering.eq) = true := by rw [f64_eq, nx, ny, decide_eq_true k]; rfl
        have r : (sgn x && !sgn y) = lessB x y := by
          unfold lessB; rw [Bool.eq_iff_iff, decide_eq_true_iff, rl, Bool.and_eq_true, Bool.not_eq_true']
          constructor
          · intro h; exact Or.inr ⟨k, h⟩
          · rintro (h | h)
            · omega
            · exact h.2
        clear rl
        cases sx : sgn x
        · go_enter Try.func10, Try.ntmps10
          go_wp2_with (first | (go_at_call 21; refine (isNaN_any _ _).mono ?_; rintro e w' ⟨rfl, rfl⟩) | (go_at_call 22; refine (signbit_any _ (by assumption) _).mono ?_; rintro e w' ⟨rfl, rfl⟩))
          go_ret
          exact ⟨ret_bool (by rw [← r, sx]; rfl), rfl⟩
        · go_enter Try.func10, Try.ntmps10
          go_wp2_with (first | (go_at_call 21; refine (isNaN_any _ _).mono ?_; rintro e w' ⟨rfl, rfl⟩) | (go_at_call 22; refine (signbit_any _ (by assumption) _).mono ?_; rintro e w' ⟨rfl, rfl⟩))
          go_ret
          exact ⟨ret_bool (by rw [← r, sx]; simp), rfl⟩
      · have q : (FloatKind.f64.format.order x y == some Ordering.eq) = false := by rw [f64_eq, nx, ny, decide_eq_false k]; rfl
        have r : (FloatKind.f64.format.order x y == some Ordering.lt) = lessB x y := by
          rw [f64_lt, nx, ny]
          unfold lessB; rw [Bool.eq_iff_iff, decide_eq_true_iff, rl]
          simp [k]
        clear rl
        go_enter Try.func10, Try.ntmps10
        go_wp2_with (first | (go_at_call 21; refine (isNaN_any _ _).mono ?_; rintro e w' ⟨rfl, rfl⟩) | (go_at_call 22; refine (signbit_any _ (by assumption) _).mono ?_; rintro e w' ⟨rfl, rfl⟩))
        go_ret
        exact ⟨rfl, rfl⟩
    · have r : lessB x y = false := by unfold lessB; rw [rank_nan ny]; simp
      go_enter Try.func10, Try.ntmps10
      go_wp2_with (go_at_call 21; refine (isNaN_any _ _).mono ?_; rintro e w' ⟨rfl, rfl⟩)
      go_ret
      exact ⟨ret_bool (by rw [r]), rfl⟩
  · have r : lessB x y = !nanB y := by
      unfold lessB; rw [rank_nan nx]
      cases ny : nanB y
      · have := rank_pos hy ny; simp; omega
      · rw [rank_nan ny]; simp
    go_enter Try.func10, Try.ntmps10
    go_wp2_with (go_at_call 21; refine (isNaN_any _ _).mono ?_; rintro e w' ⟨rfl, rfl⟩)
    go_ret
    exact ⟨ret_bool (by rw [r]), rfl⟩

theorem u64_wrap (n : Int) : IntKind.u64.wrap n = n % 18446744073709551616 := IntKind.wrap_u64 n

set_option maxHeartbeats 1000000 in
theorem refNaN_any (x : Nat) (w : World) :
    Calls Try.prog 23 #[.float .f64 x] w fun e w' => e = .returned (.bool (nanB x)) ∧ w' = w := by
  have hb := bits_run x
  by_cases c : IntKind.u64.wrap ((x : Int) * 2) / 9007199254740992 = 2047
  · go_enter Try.func23, Try.ntmps23
    go_wp2
    go_ret
    refine ⟨ret_bool ?_, rfl⟩
    unfold nanB rng
    rw [u64_wrap] at c ⊢
    rw [Bool.eq_iff_iff, bne_iff_ne, decide_eq_true_iff]
    omega
  · go_enter Try.func23, Try.ntmps23
    go_wp2
    go_ret
    refine ⟨ret_bool ?_, rfl⟩
    unfold nanB rng
    rw [u64_wrap] at c
    rw [eq_comm, decide_eq_false_iff_not]
    omega

set_option maxHeartbeats 1000000 in
theorem refRank_any (x : Nat) (hx : x < 18446744073709551616) (w : World) :
    Calls Try.prog 11 #[.float .f64 x] w fun e w' => e = .returned (.int .u64 (rank x : Int)) ∧ w' = w := by
  have hb := bits_run x
  have us : IntKind.u64.signed = false := rfl
  cases n : nanB x
  · by_cases c : (x : Int) / 9223372036854775808 = 1
    · have r := bits_not hx
      have e : ((18446744073709551615 - x : Nat) : Int) = (rank x : Int) := by
        unfold rank
        rw [n, sgn_dec hx, decide_eq_true (show 9223372036854775808 ≤ x by omega)]
        simp
      rw [e] at r
      go_enter Try.func11, Try.ntmps11
      go_wp2_with (go_at_call 23; refine (refNaN_any _ _).mono ?_; rintro e w' ⟨rfl, rfl⟩)
      go_ret
      exact ⟨rfl, rfl⟩
    · have r := bits_top (x := x) (by omega)
      have e : ((x + 9223372036854775808 : Nat) : Int) = (rank x : Int) := by
        unfold rank
        rw [n, sgn_dec hx, decide_eq_false (show ¬ 9223372036854775808 ≤ x by omega)]
        simp
      rw [e] at r
      go_enter Try.func11, Try.ntmps11
      go_wp2_with (go_at_call 23; refine (refNaN_any _ _).mono ?_; rintro e w' ⟨rfl, rfl⟩)
      go_ret
      exact ⟨rfl, rfl⟩
  · go_enter Try.func11, Try.ntmps11
    go_wp2_with (go_at_call 23; refine (refNaN_any _ _).mono ?_; rintro e w' ⟨rfl, rfl⟩)
    go_ret
    exact ⟨ret_int (by rw [rank_nan n]; rfl), rfl⟩

set_option maxHeartbeats 1000000 in
theorem alike_any (x y : Nat) (hx : x < 18446744073709551616) (hy : y < 18446744073709551616) (w : World) :
    Calls Try.prog 20 #[.float .f64 x, .float .f64 y] w fun e w' => e = .returned (.bool (decide (rank x = rank y))) ∧ w' = w := by
  go_enter Try.func20, Try.ntmps20
  go_wp2_with (go_at_call 11; refine (refRank_any _ (by assumption) _).mono ?_; rintro e w' ⟨rfl, rfl⟩)
  go_ret
  refine ⟨ret_bool ?_, rfl⟩
  rw [Bool.eq_iff_iff, beq_iff_eq, decide_eq_true_iff]; omega

/-- How a sort is told it. -/
def ordI (x y : Nat) : Int := if lessB x y = true then -1 else if lessB y x = true then 1 else 0
set_option maxHeartbeats 1000000 in
theorem order_any (x y : Nat) (hx : x < 18446744073709551616) (hy : y < 18446744073709551616) (w : World) :
    Calls Try.prog 27 #[.float .f64 x, .float .f64 y] w fun e w' => e = .returned (.int .i64 (ordI x y)) ∧ w' = w := by
  cases a : lessB x y
  · cases b : lessB y x
    · have r : ordI x y = 0 := by unfold ordI; simp [a, b]
      go_enter Try.func27, Try.ntmps27
      go_wp2_with (go_at_call 10; refine (less_any _ _ (by assumption) (by assumption) _).mono ?_; rintro e w' ⟨rfl, rfl⟩)
      go_ret
      exact ⟨ret_int r.symm, rfl⟩
    · have r : ordI x y = 1 := by unfold ordI; simp [a, b]
      go_enter Try.func27, Try.ntmps27
      go_wp2_with (go_at_call 10; refine (less_any _ _ (by assumption) (by assumption) _).mono ?_; rintro e w' ⟨rfl, rfl⟩)
      go_ret
      exact ⟨ret_int r.symm, rfl⟩
  · have r : ordI x y = -1 := by unfold ordI; simp [a]
    go_enter Try.func27, Try.ntmps27
    go_wp2_with (go_at_call 10; refine (less_any _ _ (by assumption) (by assumption) _).mono ?_; rintro e w' ⟨rfl, rfl⟩)
    go_ret
    exact ⟨ret_int r.symm, rfl⟩
theorem ord_neg (x y : Nat) : (decide (ordI x y < 0)) = lessB x y := by
  unfold ordI; cases lessB x y <;> cases lessB y x <;> rfl

/-- The NaN that the library has. -/
def theNaN : Nat := 9221120237041090561
theorem theNaN_nan : nanB theNaN = true := by decide
set_option maxHeartbeats 1000000 in
theorem mathNaN_any (w : World) :
    Calls Try.prog 24 #[] w fun e w' => e = .returned (.float .f64 theNaN) ∧ w' = w := by
  have hb := frombits_run 9221120237041090561
  go_enter Try.func24, Try.ntmps24
  go_wp2
  go_ret
  exact ⟨rfl, rfl⟩
end Go.Proofs.Ytmagldelgnkkfaa
