/-
  The walk of the statement that a moment with Num and Den so many times as great is the same.
-/
import Derived.Test.YtojelhdlomcdpaaG
namespace Go.Proofs.Ytojelhdlomcdpaa
open Go.RowKit

set_option maxHeartbeats 2000000 in
theorem ratTimes_a (n d m c t : Int) (w : World) (k : rightB n d = false) :
    Calls Try.prog 7 #[.agg #[.int .i64 n, .int .i64 d], .agg #[.int .i64 m, .int .i64 c], .int .i64 t] w fun e w' => e = .returned (.bool true) ∧ Below w.heap.size w w' := by
  go_enter Try.func7, Try.ntmps7
  go_wp2_with (first | (go_at_call 8; refine (awake_any _).mono ?_; rintro e w0 ⟨rfl, hb⟩; obtain ⟨c0, d0, f0, g0, z0⟩ := keep2 hb w.heap.size (.int .i64 n) (.int .i64 d) (by first | omega | (simp; done) | (simp; omega)) (by go_simp) (by go_simp) (by go_simp) (by go_simp); obtain ⟨c1, d1, f1, g1, z1⟩ := keep2 hb (w.heap.size + 1) (.int .i64 m) (.int .i64 c) (by first | omega | (simp; done) | (simp; omega)) (by go_simp) (by go_simp) (by go_simp) (by go_simp)) | (go_at_call 13; refine (right_any _ _ _).mono ?_; rintro e w1 ⟨rfl, hb⟩; obtain ⟨c0, d0, f0, g0, z0⟩ := keep2 hb w.heap.size (.int .i64 n) (.int .i64 d) (by first | omega | (simp; done) | (simp; omega)) (by go_simp) (by go_simp) (by go_simp) (by go_simp); obtain ⟨c1, d1, f1, g1, z1⟩ := keep2 hb (w.heap.size + 1) (.int .i64 m) (.int .i64 c) (by first | omega | (simp; done) | (simp; omega)) (by go_simp) (by go_simp) (by go_simp) (by go_simp)))
  go_ret
  refine ⟨rfl, ?_⟩
  repeat (first | exact Below.refl _ _ | with_reducible refine bs ?_ (by dsimp only; omega) | with_reducible refine bd ?_ | with_reducible refine ba ?_ | with_reducible refine bt ?_ (by assumption))

set_option maxHeartbeats 2000000 in
theorem ratTimes_b (n d m c t : Int) (w : World) (k : rightB n d = true) (k1 : rightB m c = false) :
    Calls Try.prog 7 #[.agg #[.int .i64 n, .int .i64 d], .agg #[.int .i64 m, .int .i64 c], .int .i64 t] w fun e w' => e = .returned (.bool true) ∧ Below w.heap.size w w' := by
  go_enter Try.func7, Try.ntmps7
  go_wp2_with (first | (go_at_call 8; refine (awake_any _).mono ?_; rintro e w0 ⟨rfl, hb⟩; obtain ⟨c0, d0, f0, g0, z0⟩ := keep2 hb w.heap.size (.int .i64 n) (.int .i64 d) (by first | omega | (simp; done) | (simp; omega)) (by go_simp) (by go_simp) (by go_simp) (by go_simp); obtain ⟨c1, d1, f1, g1, z1⟩ := keep2 hb (w.heap.size + 1) (.int .i64 m) (.int .i64 c) (by first | omega | (simp; done) | (simp; omega)) (by go_simp) (by go_simp) (by go_simp) (by go_simp)) | (go_at_call 13; refine (right_any _ _ _).mono ?_; rintro e w1 ⟨rfl, hb⟩; obtain ⟨c0, d0, f0, g0, z0⟩ := keep2 hb w.heap.size (.int .i64 n) (.int .i64 d) (by first | omega | (simp; done) | (simp; omega)) (by go_simp) (by go_simp) (by go_simp) (by go_simp); obtain ⟨c1, d1, f1, g1, z1⟩ := keep2 hb (w.heap.size + 1) (.int .i64 m) (.int .i64 c) (by first | omega | (simp; done) | (simp; omega)) (by go_simp) (by go_simp) (by go_simp) (by go_simp)))
  go_ret
  refine ⟨rfl, ?_⟩
  repeat (first | exact Below.refl _ _ | with_reducible refine bs ?_ (by dsimp only; omega) | with_reducible refine bd ?_ | with_reducible refine ba ?_ | with_reducible refine bt ?_ (by assumption))

set_option maxHeartbeats 2000000 in
theorem ratTimes_c (n d m c t : Int) (w : World) (k : rightB n d = true) (k1 : rightB m c = true) (h : t < 1) :
    Calls Try.prog 7 #[.agg #[.int .i64 n, .int .i64 d], .agg #[.int .i64 m, .int .i64 c], .int .i64 t] w fun e w' => e = .returned (.bool true) ∧ Below w.heap.size w w' := by
  go_enter Try.func7, Try.ntmps7
  go_wp2_with (first | (go_at_call 8; refine (awake_any _).mono ?_; rintro e w0 ⟨rfl, hb⟩; obtain ⟨c0, d0, f0, g0, z0⟩ := keep2 hb w.heap.size (.int .i64 n) (.int .i64 d) (by first | omega | (simp; done) | (simp; omega)) (by go_simp) (by go_simp) (by go_simp) (by go_simp); obtain ⟨c1, d1, f1, g1, z1⟩ := keep2 hb (w.heap.size + 1) (.int .i64 m) (.int .i64 c) (by first | omega | (simp; done) | (simp; omega)) (by go_simp) (by go_simp) (by go_simp) (by go_simp)) | (go_at_call 13; refine (right_any _ _ _).mono ?_; rintro e w1 ⟨rfl, hb⟩; obtain ⟨c0, d0, f0, g0, z0⟩ := keep2 hb w.heap.size (.int .i64 n) (.int .i64 d) (by first | omega | (simp; done) | (simp; omega)) (by go_simp) (by go_simp) (by go_simp) (by go_simp); obtain ⟨c1, d1, f1, g1, z1⟩ := keep2 hb (w.heap.size + 1) (.int .i64 m) (.int .i64 c) (by first | omega | (simp; done) | (simp; omega)) (by go_simp) (by go_simp) (by go_simp) (by go_simp)))
  go_ret
  refine ⟨rfl, ?_⟩
  repeat (first | exact Below.refl _ _ | with_reducible refine bs ?_ (by dsimp only; omega) | with_reducible refine bd ?_ | with_reducible refine ba ?_ | with_reducible refine bt ?_ (by assumption))

set_option maxHeartbeats 2000000 in
theorem ratTimes_d (n d m c t : Int) (w : World) (k : rightB n d = true) (k1 : rightB m c = true) (h : 1024 < t) (h' : 1 ≤ t) :
    Calls Try.prog 7 #[.agg #[.int .i64 n, .int .i64 d], .agg #[.int .i64 m, .int .i64 c], .int .i64 t] w fun e w' => e = .returned (.bool true) ∧ Below w.heap.size w w' := by
  go_enter Try.func7, Try.ntmps7
  go_wp2_with (first | (go_at_call 8; refine (awake_any _).mono ?_; rintro e w0 ⟨rfl, hb⟩; obtain ⟨c0, d0, f0, g0, z0⟩ := keep2 hb w.heap.size (.int .i64 n) (.int .i64 d) (by first | omega | (simp; done) | (simp; omega)) (by go_simp) (by go_simp) (by go_simp) (by go_simp); obtain ⟨c1, d1, f1, g1, z1⟩ := keep2 hb (w.heap.size + 1) (.int .i64 m) (.int .i64 c) (by first | omega | (simp; done) | (simp; omega)) (by go_simp) (by go_simp) (by go_simp) (by go_simp)) | (go_at_call 13; refine (right_any _ _ _).mono ?_; rintro e w1 ⟨rfl, hb⟩; obtain ⟨c0, d0, f0, g0, z0⟩ := keep2 hb w.heap.size (.int .i64 n) (.int .i64 d) (by first | omega | (simp; done) | (simp; omega)) (by go_simp) (by go_simp) (by go_simp) (by go_simp); obtain ⟨c1, d1, f1, g1, z1⟩ := keep2 hb (w.heap.size + 1) (.int .i64 m) (.int .i64 c) (by first | omega | (simp; done) | (simp; omega)) (by go_simp) (by go_simp) (by go_simp) (by go_simp)))
  go_ret
  refine ⟨rfl, ?_⟩
  repeat (first | exact Below.refl _ _ | with_reducible refine bs ?_ (by dsimp only; omega) | with_reducible refine bd ?_ | with_reducible refine ba ?_ | with_reducible refine bt ?_ (by assumption))

set_option maxHeartbeats 2000000 in
theorem ratTimes_far (n d m c t : Int) (w : World) (k : rightB n d = true) (k1 : rightB m c = true) (h1 : 1 ≤ t) (h2 : t ≤ 1024) (p1 : -1073741824 ≤ n * t ∧ n * t ≤ 1073741824) (p2 : -1073741824 ≤ d * t ∧ d * t ≤ 1073741824) (e1 : cmpI n d (n * t) (d * t) = 0) (k2 : rightB (n * t) (d * t) = false) :
    Calls Try.prog 7 #[.agg #[.int .i64 n, .int .i64 d], .agg #[.int .i64 m, .int .i64 c], .int .i64 t] w fun e w' => e = .returned (.bool true) ∧ Below w.heap.size w w' := by
  go_enter Try.func7, Try.ntmps7
  go_wp2_with (first | (go_at_call 8; refine (awake_any _).mono ?_; rintro e w0 ⟨rfl, hb⟩; obtain ⟨c0, d0, f0, g0, z0⟩ := keep2 hb w.heap.size (.int .i64 n) (.int .i64 d) (by first | omega | (simp; done) | (simp; omega)) (by go_simp) (by go_simp) (by go_simp) (by go_simp); obtain ⟨c1, d1, f1, g1, z1⟩ := keep2 hb (w.heap.size + 1) (.int .i64 m) (.int .i64 c) (by first | omega | (simp; done) | (simp; omega)) (by go_simp) (by go_simp) (by go_simp) (by go_simp)) | (go_at_call_of 13 (Value.int IntKind.i64 (d * t)); refine (right_any _ _ _).mono ?_; rintro e w3 ⟨rfl, hb⟩; obtain ⟨c0, d0, f0, g0, z0⟩ := keep2 hb w.heap.size (.int .i64 n) (.int .i64 d) (by first | omega | (simp; done) | (simp; omega)) (by go_simp) (by go_simp) (by go_simp) (by go_simp); obtain ⟨c1, d1, f1, g1, z1⟩ := keep2 hb (w.heap.size + 1) (.int .i64 m) (.int .i64 c) (by first | omega | (simp; done) | (simp; omega)) (by go_simp) (by go_simp) (by go_simp) (by go_simp); obtain ⟨c2, d2, f2, g2, z2⟩ := keep2 hb w2.heap.size (.int .i64 (n * t)) (.int .i64 (d * t)) (by first | omega | (simp; done) | (simp; omega)) (by go_simp) (by go_simp) (by go_simp) (by go_simp)) | (go_at_call_of 13 (Value.int IntKind.i64 d); refine (right_any _ _ _).mono ?_; rintro e w1 ⟨rfl, hb⟩; obtain ⟨c0, d0, f0, g0, z0⟩ := keep2 hb w.heap.size (.int .i64 n) (.int .i64 d) (by first | omega | (simp; done) | (simp; omega)) (by go_simp) (by go_simp) (by go_simp) (by go_simp); obtain ⟨c1, d1, f1, g1, z1⟩ := keep2 hb (w.heap.size + 1) (.int .i64 m) (.int .i64 c) (by first | omega | (simp; done) | (simp; omega)) (by go_simp) (by go_simp) (by go_simp) (by go_simp)) | (go_at_call_of 13 (Value.int IntKind.i64 c); refine (right_any _ _ _).mono ?_; rintro e w2 ⟨rfl, hb⟩; obtain ⟨c0, d0, f0, g0, z0⟩ := keep2 hb w.heap.size (.int .i64 n) (.int .i64 d) (by first | omega | (simp; done) | (simp; omega)) (by go_simp) (by go_simp) (by go_simp) (by go_simp); obtain ⟨c1, d1, f1, g1, z1⟩ := keep2 hb (w.heap.size + 1) (.int .i64 m) (.int .i64 c) (by first | omega | (simp; done) | (simp; omega)) (by go_simp) (by go_simp) (by go_simp) (by go_simp)))
  have L0 := later_cell (W := w3) (a := ⟨w.heap.size, 0, none⟩) z0 c0
  have M0 := later_cell (W := w3) (a := ⟨w.heap.size, 1, none⟩) z0 d0
  have L1 := later_cell (W := w3) (a := ⟨w.heap.size + 1, 0, none⟩) z1 c1
  have M1 := later_cell (W := w3) (a := ⟨w.heap.size + 1, 1, none⟩) z1 d1
  have L2 := later_cell (W := w3) (a := ⟨w2.heap.size, 0, none⟩) z2 c2
  have M2 := later_cell (W := w3) (a := ⟨w2.heap.size, 1, none⟩) z2 d2
  have ne : Nonempty (Later w3) := ⟨⟨w3, Below.refl _ _⟩⟩
  refine wp_region_later (by kernel_rfl) (by kernel_rfl) ?_
  repeat (go_big_quiet_step (first | (go_at_call 15; exact calls_later (cmp_any _ _ _ _ _)) | (go_at_call 17; exact calls_later (least_no _ _ _ (by assumption)))))
  refine wpQuiet_nil ?_
  rintro _ ⟨⟨wq, hq⟩, rfl⟩
  clear L0 M0 L1 M1 L2 M2 ne
  go_wp2
  go_ret
  refine ⟨rfl, ?_⟩
  repeat (first | exact Below.refl _ _ | with_reducible refine bs ?_ (by dsimp only; omega) | with_reducible refine bd ?_ | with_reducible refine ba ?_ | with_reducible refine bt ?_ (by assumption))

set_option maxHeartbeats 2000000 in
theorem ratTimes_near (n d m c t : Int) (w : World) (k : rightB n d = true) (k1 : rightB m c = true) (h1 : 1 ≤ t) (h2 : t ≤ 1024) (p1 : -1073741824 ≤ n * t ∧ n * t ≤ 1073741824) (p2 : -1073741824 ≤ d * t ∧ d * t ≤ 1073741824) (e1 : cmpI n d (n * t) (d * t) = 0) (k2 : rightB (n * t) (d * t) = true) (e2 : cmpI (n * t) (d * t) m c = cmpI n d m c) (e3 : lN (n * t) (d * t) = lN n d) (e4 : lD (n * t) (d * t) = lD n d) :
    Calls Try.prog 7 #[.agg #[.int .i64 n, .int .i64 d], .agg #[.int .i64 m, .int .i64 c], .int .i64 t] w fun e w' => e = .returned (.bool true) ∧ Below w.heap.size w w' := by
  go_enter Try.func7, Try.ntmps7
  go_wp2_with (first | (go_at_call 8; refine (awake_any _).mono ?_; rintro e w0 ⟨rfl, hb⟩; obtain ⟨c0, d0, f0, g0, z0⟩ := keep2 hb w.heap.size (.int .i64 n) (.int .i64 d) (by first | omega | (simp; done) | (simp; omega)) (by go_simp) (by go_simp) (by go_simp) (by go_simp); obtain ⟨c1, d1, f1, g1, z1⟩ := keep2 hb (w.heap.size + 1) (.int .i64 m) (.int .i64 c) (by first | omega | (simp; done) | (simp; omega)) (by go_simp) (by go_simp) (by go_simp) (by go_simp)) | (go_at_call_of 13 (Value.int IntKind.i64 (d * t)); refine (right_any _ _ _).mono ?_; rintro e w3 ⟨rfl, hb⟩; obtain ⟨c0, d0, f0, g0, z0⟩ := keep2 hb w.heap.size (.int .i64 n) (.int .i64 d) (by first | omega | (simp; done) | (simp; omega)) (by go_simp) (by go_simp) (by go_simp) (by go_simp); obtain ⟨c1, d1, f1, g1, z1⟩ := keep2 hb (w.heap.size + 1) (.int .i64 m) (.int .i64 c) (by first | omega | (simp; done) | (simp; omega)) (by go_simp) (by go_simp) (by go_simp) (by go_simp); obtain ⟨c2, d2, f2, g2, z2⟩ := keep2 hb w2.heap.size (.int .i64 (n * t)) (.int .i64 (d * t)) (by first | omega | (simp; done) | (simp; omega)) (by go_simp) (by go_simp) (by go_simp) (by go_simp)) | (go_at_call_of 13 (Value.int IntKind.i64 d); refine (right_any _ _ _).mono ?_; rintro e w1 ⟨rfl, hb⟩; obtain ⟨c0, d0, f0, g0, z0⟩ := keep2 hb w.heap.size (.int .i64 n) (.int .i64 d) (by first | omega | (simp; done) | (simp; omega)) (by go_simp) (by go_simp) (by go_simp) (by go_simp); obtain ⟨c1, d1, f1, g1, z1⟩ := keep2 hb (w.heap.size + 1) (.int .i64 m) (.int .i64 c) (by first | omega | (simp; done) | (simp; omega)) (by go_simp) (by go_simp) (by go_simp) (by go_simp)) | (go_at_call_of 13 (Value.int IntKind.i64 c); refine (right_any _ _ _).mono ?_; rintro e w2 ⟨rfl, hb⟩; obtain ⟨c0, d0, f0, g0, z0⟩ := keep2 hb w.heap.size (.int .i64 n) (.int .i64 d) (by first | omega | (simp; done) | (simp; omega)) (by go_simp) (by go_simp) (by go_simp) (by go_simp); obtain ⟨c1, d1, f1, g1, z1⟩ := keep2 hb (w.heap.size + 1) (.int .i64 m) (.int .i64 c) (by first | omega | (simp; done) | (simp; omega)) (by go_simp) (by go_simp) (by go_simp) (by go_simp)))
  have L0 := later_cell (W := w3) (a := ⟨w.heap.size, 0, none⟩) z0 c0
  have M0 := later_cell (W := w3) (a := ⟨w.heap.size, 1, none⟩) z0 d0
  have L1 := later_cell (W := w3) (a := ⟨w.heap.size + 1, 0, none⟩) z1 c1
  have M1 := later_cell (W := w3) (a := ⟨w.heap.size + 1, 1, none⟩) z1 d1
  have L2 := later_cell (W := w3) (a := ⟨w2.heap.size, 0, none⟩) z2 c2
  have M2 := later_cell (W := w3) (a := ⟨w2.heap.size, 1, none⟩) z2 d2
  have ne : Nonempty (Later w3) := ⟨⟨w3, Below.refl _ _⟩⟩
  refine wp_region_later (by kernel_rfl) (by kernel_rfl) ?_
  repeat (go_big_quiet_step (first | (go_at_call 15; exact calls_later (cmp_any _ _ _ _ _)) | (go_at_call 17; exact calls_later (least_yes _ _ _ (by assumption)))))
  refine wpQuiet_nil ?_
  rintro _ ⟨⟨wq, hq⟩, rfl⟩
  clear L0 M0 L1 M1 L2 M2 ne
  go_wp2
  go_ret
  refine ⟨rfl, ?_⟩
  repeat (first | exact Below.refl _ _ | with_reducible refine bs ?_ (by dsimp only; omega) | with_reducible refine bd ?_ | with_reducible refine ba ?_ | with_reducible refine bt ?_ (by assumption))

end Go.Proofs.Ytojelhdlomcdpaa
