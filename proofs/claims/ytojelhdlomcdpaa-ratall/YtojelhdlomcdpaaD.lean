/-
  The walks of 'After' and 'Max' of package rat, and of the statements' own 'awake'.
-/
import Derived.Test.YtojelhdlomcdpaaC
namespace Go.Proofs.Ytojelhdlomcdpaa
open Go.RowKit

def aftI (n d : Int) : Int := n / d + 1
theorem aft_hi {n d : Int} (h : 0 ≤ n.tmod d) (hd : 1 ≤ d) : n.tdiv d + 1 = aftI n d := by
  unfold aftI
  rw [Int.tdiv_eq_ediv]
  by_cases hc : 0 ≤ n ∨ d ∣ n
  · rw [if_pos hc]; omega
  · exfalso
    rw [Int.tmod_eq_emod, if_neg hc] at h
    have := Int.emod_lt_of_pos n (show 0 < d by omega)
    omega
theorem aft_lo {n d : Int} (h : n.tmod d < 0) (hd : 1 ≤ d) : n.tdiv d = aftI n d := by
  unfold aftI
  rw [Int.tdiv_eq_ediv]
  by_cases hc : 0 ≤ n ∨ d ∣ n
  · exfalso
    rw [Int.tmod_eq_emod, if_pos hc] at h
    have := Int.emod_nonneg n (show d ≠ 0 by omega)
    omega
  · rw [if_neg hc, Int.sign_eq_one_of_pos (by omega)]
theorem aft_bd {n d : Int} (hd : 1 ≤ d) (h1 : -1048576 ≤ n) (h2 : n ≤ 1048576) : -1048576 ≤ n.tdiv d ∧ n.tdiv d ≤ 1048576 := by
  have e := Int.tdiv_eq_ediv (a := n) (b := d)
  have a1 : -1048576 ≤ n / d := by rw [Int.le_ediv_iff_mul_le (by omega)]; omega
  have a2 : n / d ≤ 1048576 := by
    have := Int.ediv_le_ediv (show 0 < d by omega) h2
    have h3 : (1048576 : Int) / d ≤ 1048576 := Int.ediv_le_self _ (by omega)
    omega
  have a3 : n < 0 → n / d < 0 := fun h => Int.ediv_neg_of_neg_of_pos h (by omega)
  have s := Int.sign_eq_one_of_pos (show 0 < d by omega)
  by_cases hc : 0 ≤ n ∨ d ∣ n
  · rw [if_pos hc] at e; omega
  · rw [if_neg hc, s] at e
    have : n < 0 := by omega
    have := a3 this
    omega

set_option maxHeartbeats 800000 in
theorem after_no (n d : Int) (w : World) (h : rightB n d = false) :
    Calls Try.prog 11 #[.agg #[.int .i64 n, .int .i64 d]] w fun e w' => e = .returned (.tuple #[.agg #[.int .i64 0, .int .i64 0], .bool false]) ∧ Below w.heap.size w w' := by
  go_enter Try.func11, Try.ntmps11
  go_wp2_with (go_at_call 13; refine (right_any _ _ _).mono ?_; rintro e w' ⟨rfl, hb⟩; obtain ⟨c0, d0, f0, g0, z0⟩ := keep2 hb w.heap.size (.int .i64 n) (.int .i64 d) (by first | omega | (simp; done) | (simp; omega)) (by go_simp) (by go_simp) (by go_simp) (by go_simp); obtain ⟨c1, d1, f1, g1, z1⟩ := keep2 hb (w.heap.size + 1) (.int .i64 0) (.int .i64 0) (by first | omega | (simp; done) | (simp; omega)) (by go_simp) (by go_simp) (by go_simp) (by go_simp))
  refine bodyPost_ret (v := .tuple #[.agg #[.int .i64 0, .int .i64 0], .bool false]) (by simp [results, Try.results11, go_sem, c1, d1]) rfl ⟨rfl, ?_⟩
  repeat (first | exact Below.refl _ _ | with_reducible refine bs ?_ (by dsimp only; omega) | with_reducible refine bd ?_ | with_reducible refine ba ?_ | with_reducible refine bt ?_ (by assumption))

set_option maxHeartbeats 800000 in
theorem after_yes (n d : Int) (w : World) (h : rightB n d = true) (hr : rightB (aftI n d) 1 = true) :
    Calls Try.prog 11 #[.agg #[.int .i64 n, .int .i64 d]] w fun e w' => e = .returned (.tuple #[.agg #[.int .i64 (aftI n d), .int .i64 1], .bool true]) ∧ Below w.heap.size w w' := by
  obtain ⟨a1, a2, a3, a4⟩ := (right_iff _ _).1 h
  obtain ⟨b1, b2⟩ := aft_bd a1 a3 a4
  by_cases hm : 0 ≤ n.tmod d
  · have e1 := aft_hi hm a1
    go_enter Try.func11, Try.ntmps11
    go_wp2_with (first | (go_at_call 21; refine (ifRight_yes _ _ _ (by assumption)).mono ?_; rintro e w'' ⟨rfl, hb2⟩; obtain ⟨c3, d3, f3, g3, z3⟩ := keep2 hb2 (w.heap.size + 1) (.int .i64 0) (.int .i64 0) (by first | omega | (simp; done) | (simp; omega)) (by go_simp) (by go_simp) (by go_simp) (by go_simp)) | (go_at_call 13; refine (right_any _ _ _).mono ?_; rintro e w' ⟨rfl, hb⟩; obtain ⟨c0, d0, f0, g0, z0⟩ := keep2 hb w.heap.size (.int .i64 n) (.int .i64 d) (by first | omega | (simp; done) | (simp; omega)) (by go_simp) (by go_simp) (by go_simp) (by go_simp); obtain ⟨c1, d1, f1, g1, z1⟩ := keep2 hb (w.heap.size + 1) (.int .i64 0) (.int .i64 0) (by first | omega | (simp; done) | (simp; omega)) (by go_simp) (by go_simp) (by go_simp) (by go_simp)))
    refine bodyPost_ret (v := .tuple #[.agg #[.int .i64 (aftI n d), .int .i64 1], .bool true]) (by simp [results, Try.results11, go_sem, c3, d3]) rfl ⟨rfl, ?_⟩
    repeat (first | exact Below.refl _ _ | with_reducible refine bs ?_ (by dsimp only; omega) | with_reducible refine bd ?_ | with_reducible refine ba ?_ | with_reducible refine bt ?_ (by assumption))
  · have e1 := aft_lo (Int.not_le.1 hm) a1
    go_enter Try.func11, Try.ntmps11
    go_wp2_with (first | (go_at_call 21; refine (ifRight_yes _ _ _ (by assumption)).mono ?_; rintro e w'' ⟨rfl, hb2⟩; obtain ⟨c3, d3, f3, g3, z3⟩ := keep2 hb2 (w.heap.size + 1) (.int .i64 0) (.int .i64 0) (by first | omega | (simp; done) | (simp; omega)) (by go_simp) (by go_simp) (by go_simp) (by go_simp)) | (go_at_call 13; refine (right_any _ _ _).mono ?_; rintro e w' ⟨rfl, hb⟩; obtain ⟨c0, d0, f0, g0, z0⟩ := keep2 hb w.heap.size (.int .i64 n) (.int .i64 d) (by first | omega | (simp; done) | (simp; omega)) (by go_simp) (by go_simp) (by go_simp) (by go_simp); obtain ⟨c1, d1, f1, g1, z1⟩ := keep2 hb (w.heap.size + 1) (.int .i64 0) (.int .i64 0) (by first | omega | (simp; done) | (simp; omega)) (by go_simp) (by go_simp) (by go_simp) (by go_simp)))
    refine bodyPost_ret (v := .tuple #[.agg #[.int .i64 (aftI n d), .int .i64 1], .bool true]) (by simp [results, Try.results11, go_sem, c3, d3]) rfl ⟨rfl, ?_⟩
    repeat (first | exact Below.refl _ _ | with_reducible refine bs ?_ (by dsimp only; omega) | with_reducible refine bd ?_ | with_reducible refine ba ?_ | with_reducible refine bt ?_ (by assumption))

set_option maxHeartbeats 800000 in
theorem after_far (n d : Int) (w : World) (h : rightB n d = true) (hr : rightB (aftI n d) 1 = false) :
    Calls Try.prog 11 #[.agg #[.int .i64 n, .int .i64 d]] w fun e w' => e = .returned (.tuple #[.agg #[.int .i64 0, .int .i64 0], .bool false]) ∧ Below w.heap.size w w' := by
  obtain ⟨a1, a2, a3, a4⟩ := (right_iff _ _).1 h
  obtain ⟨b1, b2⟩ := aft_bd a1 a3 a4
  by_cases hm : 0 ≤ n.tmod d
  · have e1 := aft_hi hm a1
    go_enter Try.func11, Try.ntmps11
    go_wp2_with (first | (go_at_call 21; refine (ifRight_no _ _ _ (by assumption)).mono ?_; rintro e w'' ⟨rfl, hb2⟩; obtain ⟨c3, d3, f3, g3, z3⟩ := keep2 hb2 (w.heap.size + 1) (.int .i64 0) (.int .i64 0) (by first | omega | (simp; done) | (simp; omega)) (by go_simp) (by go_simp) (by go_simp) (by go_simp)) | (go_at_call 13; refine (right_any _ _ _).mono ?_; rintro e w' ⟨rfl, hb⟩; obtain ⟨c0, d0, f0, g0, z0⟩ := keep2 hb w.heap.size (.int .i64 n) (.int .i64 d) (by first | omega | (simp; done) | (simp; omega)) (by go_simp) (by go_simp) (by go_simp) (by go_simp); obtain ⟨c1, d1, f1, g1, z1⟩ := keep2 hb (w.heap.size + 1) (.int .i64 0) (.int .i64 0) (by first | omega | (simp; done) | (simp; omega)) (by go_simp) (by go_simp) (by go_simp) (by go_simp)))
    refine bodyPost_ret (v := .tuple #[.agg #[.int .i64 0, .int .i64 0], .bool false]) (by simp [results, Try.results11, go_sem, c3, d3]) rfl ⟨rfl, ?_⟩
    repeat (first | exact Below.refl _ _ | with_reducible refine bs ?_ (by dsimp only; omega) | with_reducible refine bd ?_ | with_reducible refine ba ?_ | with_reducible refine bt ?_ (by assumption))
  · have e1 := aft_lo (Int.not_le.1 hm) a1
    go_enter Try.func11, Try.ntmps11
    go_wp2_with (first | (go_at_call 21; refine (ifRight_no _ _ _ (by assumption)).mono ?_; rintro e w'' ⟨rfl, hb2⟩; obtain ⟨c3, d3, f3, g3, z3⟩ := keep2 hb2 (w.heap.size + 1) (.int .i64 0) (.int .i64 0) (by first | omega | (simp; done) | (simp; omega)) (by go_simp) (by go_simp) (by go_simp) (by go_simp)) | (go_at_call 13; refine (right_any _ _ _).mono ?_; rintro e w' ⟨rfl, hb⟩; obtain ⟨c0, d0, f0, g0, z0⟩ := keep2 hb w.heap.size (.int .i64 n) (.int .i64 d) (by first | omega | (simp; done) | (simp; omega)) (by go_simp) (by go_simp) (by go_simp) (by go_simp); obtain ⟨c1, d1, f1, g1, z1⟩ := keep2 hb (w.heap.size + 1) (.int .i64 0) (.int .i64 0) (by first | omega | (simp; done) | (simp; omega)) (by go_simp) (by go_simp) (by go_simp) (by go_simp)))
    refine bodyPost_ret (v := .tuple #[.agg #[.int .i64 0, .int .i64 0], .bool false]) (by simp [results, Try.results11, go_sem, c3, d3]) rfl ⟨rfl, ?_⟩
    repeat (first | exact Below.refl _ _ | with_reducible refine bs ?_ (by dsimp only; omega) | with_reducible refine bd ?_ | with_reducible refine ba ?_ | with_reducible refine bt ?_ (by assumption))

set_option maxHeartbeats 800000 in
theorem max_second (n d m c : Int) (w : World) (h : cmpI n d m c = -1) :
    Calls Try.prog 19 #[.agg #[.int .i64 n, .int .i64 d], .agg #[.int .i64 m, .int .i64 c]] w fun e w' => e = .returned (.agg #[.int .i64 m, .int .i64 c]) ∧ Below w.heap.size w w' := by
  go_enter Try.func19, Try.ntmps19
  go_wp2_with (go_at_call 15; refine (cmp_any _ _ _ _ _).mono ?_; rintro e w' ⟨rfl, hb⟩; obtain ⟨c0, d0, f0, g0, z0⟩ := keep2 hb w.heap.size (.int .i64 n) (.int .i64 d) (by first | omega | (simp; done) | (simp; omega)) (by go_simp) (by go_simp) (by go_simp) (by go_simp); obtain ⟨c1, d1, f1, g1, z1⟩ := keep2 hb (w.heap.size + 1) (.int .i64 m) (.int .i64 c) (by first | omega | (simp; done) | (simp; omega)) (by go_simp) (by go_simp) (by go_simp) (by go_simp); obtain ⟨c2, d2, f2, g2, z2⟩ := keep2 hb (w.heap.size + 1 + 1) (.int .i64 0) (.int .i64 0) (by first | omega | (simp; done) | (simp; omega)) (by go_simp) (by go_simp) (by go_simp) (by go_simp))
  refine bodyPost_ret (v := .agg #[.int .i64 m, .int .i64 c]) (by simp [results, Try.results19, go_sem, c2, d2]) rfl ⟨rfl, ?_⟩
  repeat (first | exact Below.refl _ _ | with_reducible refine bs ?_ (by dsimp only; omega) | with_reducible refine bd ?_ | with_reducible refine ba ?_ | with_reducible refine bt ?_ (by assumption))

set_option maxHeartbeats 800000 in
theorem max_first (n d m c : Int) (w : World) (h : 0 ≤ cmpI n d m c) :
    Calls Try.prog 19 #[.agg #[.int .i64 n, .int .i64 d], .agg #[.int .i64 m, .int .i64 c]] w fun e w' => e = .returned (.agg #[.int .i64 n, .int .i64 d]) ∧ Below w.heap.size w w' := by
  go_enter Try.func19, Try.ntmps19
  go_wp2_with (go_at_call 15; refine (cmp_any _ _ _ _ _).mono ?_; rintro e w' ⟨rfl, hb⟩; obtain ⟨c0, d0, f0, g0, z0⟩ := keep2 hb w.heap.size (.int .i64 n) (.int .i64 d) (by first | omega | (simp; done) | (simp; omega)) (by go_simp) (by go_simp) (by go_simp) (by go_simp); obtain ⟨c1, d1, f1, g1, z1⟩ := keep2 hb (w.heap.size + 1) (.int .i64 m) (.int .i64 c) (by first | omega | (simp; done) | (simp; omega)) (by go_simp) (by go_simp) (by go_simp) (by go_simp); obtain ⟨c2, d2, f2, g2, z2⟩ := keep2 hb (w.heap.size + 1 + 1) (.int .i64 0) (.int .i64 0) (by first | omega | (simp; done) | (simp; omega)) (by go_simp) (by go_simp) (by go_simp) (by go_simp))
  refine bodyPost_ret (v := .agg #[.int .i64 n, .int .i64 d]) (by simp [results, Try.results19, go_sem, c2, d2]) rfl ⟨rfl, ?_⟩
  repeat (first | exact Below.refl _ _ | with_reducible refine bs ?_ (by dsimp only; omega) | with_reducible refine bd ?_ | with_reducible refine ba ?_ | with_reducible refine bt ?_ (by assumption))

theorem awake_between (w : World) :
    Calls Try.prog 9 #[.agg #[.int .i64 0, .int .i64 1], .agg #[.int .i64 1, .int .i64 1]] w fun e w' => e = .returned (.tuple #[.agg #[.int .i64 1, .int .i64 2], .bool true]) ∧ Below w.heap.size w w' :=
  between_yes 0 1 1 1 w (by decide +kernel) (by decide +kernel)
theorem awake_cmp (w : World) :
    Calls Try.prog 15 #[.agg #[.int .i64 1, .int .i64 2], .agg #[.int .i64 2, .int .i64 4]] w fun e w' => e = .returned (.int .i64 0) ∧ Below w.heap.size w w' := cmp_any 1 2 2 4 w
theorem awake_right (w : World) :
    Calls Try.prog 13 #[.agg #[.int .i64 1, .int .i64 2]] w fun e w' => e = .returned (.bool true) ∧ Below w.heap.size w w' := right_any 1 2 w

set_option maxHeartbeats 800000 in
theorem awake_any (w : World) :
    Calls Try.prog 8 #[] w fun e w' => e = .returned (.bool true) ∧ Below w.heap.size w w' := by
  go_enter Try.func8, Try.ntmps8
  go_wp2_with (first | (go_at_call 9; refine (awake_between _).mono ?_; rintro e w1 ⟨rfl, hb1⟩) | (go_at_call 13; refine (awake_right _).mono ?_; rintro e w2 ⟨rfl, hb2⟩; obtain ⟨c0, d0, f0, g0, z0⟩ := keep2 hb2 w1.heap.size (.int .i64 1) (.int .i64 2) (by first | omega | (simp; done) | (simp; omega)) (by go_simp) (by go_simp) (by go_simp) (by go_simp)) | (go_at_call 15; refine (awake_cmp _).mono ?_; rintro e w3 ⟨rfl, hb3⟩))
  go_ret
  refine ⟨rfl, ?_⟩
  repeat (first | exact Below.refl _ _ | with_reducible refine bs ?_ (by dsimp only; omega) | with_reducible refine bd ?_ | with_reducible refine ba ?_ | with_reducible refine bt ?_ (by assumption))
end Go.Proofs.Ytojelhdlomcdpaa
