/-
  The walks of 'Between', 'After' and 'Max' of package rat.
-/
import Derived.Test.YtojelhdlomcdpaaB
import Derived.Deep.RegionWith
namespace Go.Proofs.Ytojelhdlomcdpaa
open Go.RowKit

theorem cmpI_neg {n d m c : Int} (h : cmpI n d m c = -1) : rightB n d = true ∧ rightB m c = true := by
  unfold cmpI at h; split at h
  · assumption
  · omega

set_option maxHeartbeats 400000 in
theorem between_no (n d m c : Int) (w : World) (h : 0 ≤ cmpI n d m c) :
    Calls Try.prog 9 #[.agg #[.int .i64 n, .int .i64 d], .agg #[.int .i64 m, .int .i64 c]] w fun e w' => e = .returned (.tuple #[.agg #[.int .i64 0, .int .i64 0], .bool false]) ∧ Below w.heap.size w w' := by
  go_enter Try.func9, Try.ntmps9
  go_wp2_with (go_at_call 15; refine (cmp_any _ _ _ _ _).mono ?_; rintro e w' ⟨rfl, hb⟩; obtain ⟨c0, d0, f0, g0, z0⟩ := keep2 hb w.heap.size (.int .i64 n) (.int .i64 d) (by first | omega | (simp; done) | (simp; omega)) (by go_simp) (by go_simp) (by go_simp) (by go_simp); obtain ⟨c1, d1, f1, g1, z1⟩ := keep2 hb (w.heap.size + 1) (.int .i64 m) (.int .i64 c) (by first | omega | (simp; done) | (simp; omega)) (by go_simp) (by go_simp) (by go_simp) (by go_simp); obtain ⟨c2, d2, f2, g2, z2⟩ := keep2 hb (w.heap.size + 1 + 1) (.int .i64 0) (.int .i64 0) (by first | omega | (simp; done) | (simp; omega)) (by go_simp) (by go_simp) (by go_simp) (by go_simp))
  exact bodyPost_ret (v := .tuple #[.agg #[.int .i64 0, .int .i64 0], .bool false]) (by simp [results, Try.results9, go_sem, c2, d2]) rfl ⟨rfl, bs (bs (bt (ba (ba (ba (Below.refl _ _)))) hb) (by show w.heap.size ≤ w.heap.size + 1 + 1; omega)) (by show w.heap.size ≤ w.heap.size + 1 + 1; omega)⟩

set_option maxHeartbeats 2000000 in
theorem between_yes (n d m c : Int) (w : World) (h : cmpI n d m c = -1) (hr : rightB (lN n d + lN m c) (lD n d + lD m c) = true) :
    Calls Try.prog 9 #[.agg #[.int .i64 n, .int .i64 d], .agg #[.int .i64 m, .int .i64 c]] w fun e w' => e = .returned (.tuple #[.agg #[.int .i64 (lN n d + lN m c), .int .i64 (lD n d + lD m c)], .bool true]) ∧ Below w.heap.size w w' := by
  obtain ⟨r1, r2⟩ := cmpI_neg h
  obtain ⟨a1, a2, a3, a4⟩ := (right_iff _ _).1 (least_right r1)
  obtain ⟨b1, b2, b3, b4⟩ := (right_iff _ _).1 (least_right r2)
  go_enter Try.func9, Try.ntmps9
  go_wp2_with (go_at_call 15; refine (cmp_any _ _ _ _ _).mono ?_; rintro e w' ⟨rfl, hb⟩; obtain ⟨c0, d0, f0, g0, z0⟩ := keep2 hb w.heap.size (.int .i64 n) (.int .i64 d) (by first | omega | (simp; done) | (simp; omega)) (by go_simp) (by go_simp) (by go_simp) (by go_simp); obtain ⟨c1, d1, f1, g1, z1⟩ := keep2 hb (w.heap.size + 1) (.int .i64 m) (.int .i64 c) (by first | omega | (simp; done) | (simp; omega)) (by go_simp) (by go_simp) (by go_simp) (by go_simp); obtain ⟨c2, d2, f2, g2, z2⟩ := keep2 hb (w.heap.size + 1 + 1) (.int .i64 0) (.int .i64 0) (by first | omega | (simp; done) | (simp; omega)) (by go_simp) (by go_simp) (by go_simp) (by go_simp))
  go_region_with (go_at_call 17; refine (least_yes _ _ _ (by assumption)).mono ?_; rintro e w' ⟨rfl, hb⟩; obtain ⟨c0, d0, f0, g0, z0⟩ := keep2 hb w.heap.size (.int .i64 n) (.int .i64 d) (by first | omega | (simp; done) | (simp; omega)) (by go_simp) (by go_simp) (by go_simp) (by go_simp); obtain ⟨c1, d1, f1, g1, z1⟩ := keep2 hb (w.heap.size + 1) (.int .i64 m) (.int .i64 c) (by first | omega | (simp; done) | (simp; omega)) (by go_simp) (by go_simp) (by go_simp) (by go_simp); obtain ⟨c2, d2, f2, g2, z2⟩ := keep2 hb (w.heap.size + 1 + 1) (.int .i64 0) (.int .i64 0) (by first | omega | (simp; done) | (simp; omega)) (by go_simp) (by go_simp) (by go_simp) (by go_simp))
  all_goals
    go_wp2_with (go_at_call 21; refine (ifRight_yes _ _ _ (by assumption)).mono ?_; rintro e w'' ⟨rfl, hb2⟩; obtain ⟨c3, d3, f3, g3, z3⟩ := keep2 hb2 (w.heap.size + 1 + 1) (.int .i64 0) (.int .i64 0) (by first | omega | (simp; done) | (simp; omega)) (by go_simp) (by go_simp) (by go_simp) (by go_simp))
    refine bodyPost_ret (v := .tuple #[.agg #[.int .i64 (lN n d + lN m c), .int .i64 (lD n d + lD m c)], .bool true]) (by simp [results, Try.results9, go_sem, c3, d3]) rfl ⟨rfl, ?_⟩
    repeat (first | exact Below.refl _ _ | with_reducible refine bs ?_ (by dsimp only; omega) | with_reducible refine bd ?_ | with_reducible refine ba ?_ | with_reducible refine bt ?_ (by assumption))

set_option maxHeartbeats 2000000 in
theorem between_far (n d m c : Int) (w : World) (h : cmpI n d m c = -1) (hr : rightB (lN n d + lN m c) (lD n d + lD m c) = false) :
    Calls Try.prog 9 #[.agg #[.int .i64 n, .int .i64 d], .agg #[.int .i64 m, .int .i64 c]] w fun e w' => e = .returned (.tuple #[.agg #[.int .i64 0, .int .i64 0], .bool false]) ∧ Below w.heap.size w w' := by
  obtain ⟨r1, r2⟩ := cmpI_neg h
  obtain ⟨a1, a2, a3, a4⟩ := (right_iff _ _).1 (least_right r1)
  obtain ⟨b1, b2, b3, b4⟩ := (right_iff _ _).1 (least_right r2)
  go_enter Try.func9, Try.ntmps9
  go_wp2_with (go_at_call 15; refine (cmp_any _ _ _ _ _).mono ?_; rintro e w' ⟨rfl, hb⟩; obtain ⟨c0, d0, f0, g0, z0⟩ := keep2 hb w.heap.size (.int .i64 n) (.int .i64 d) (by first | omega | (simp; done) | (simp; omega)) (by go_simp) (by go_simp) (by go_simp) (by go_simp); obtain ⟨c1, d1, f1, g1, z1⟩ := keep2 hb (w.heap.size + 1) (.int .i64 m) (.int .i64 c) (by first | omega | (simp; done) | (simp; omega)) (by go_simp) (by go_simp) (by go_simp) (by go_simp); obtain ⟨c2, d2, f2, g2, z2⟩ := keep2 hb (w.heap.size + 1 + 1) (.int .i64 0) (.int .i64 0) (by first | omega | (simp; done) | (simp; omega)) (by go_simp) (by go_simp) (by go_simp) (by go_simp))
  go_region_with (go_at_call 17; refine (least_yes _ _ _ (by assumption)).mono ?_; rintro e w' ⟨rfl, hb⟩; obtain ⟨c0, d0, f0, g0, z0⟩ := keep2 hb w.heap.size (.int .i64 n) (.int .i64 d) (by first | omega | (simp; done) | (simp; omega)) (by go_simp) (by go_simp) (by go_simp) (by go_simp); obtain ⟨c1, d1, f1, g1, z1⟩ := keep2 hb (w.heap.size + 1) (.int .i64 m) (.int .i64 c) (by first | omega | (simp; done) | (simp; omega)) (by go_simp) (by go_simp) (by go_simp) (by go_simp); obtain ⟨c2, d2, f2, g2, z2⟩ := keep2 hb (w.heap.size + 1 + 1) (.int .i64 0) (.int .i64 0) (by first | omega | (simp; done) | (simp; omega)) (by go_simp) (by go_simp) (by go_simp) (by go_simp))
  all_goals
    go_wp2_with (go_at_call 21; refine (ifRight_no _ _ _ (by assumption)).mono ?_; rintro e w'' ⟨rfl, hb2⟩; obtain ⟨c3, d3, f3, g3, z3⟩ := keep2 hb2 (w.heap.size + 1 + 1) (.int .i64 0) (.int .i64 0) (by first | omega | (simp; done) | (simp; omega)) (by go_simp) (by go_simp) (by go_simp) (by go_simp))
    refine bodyPost_ret (v := .tuple #[.agg #[.int .i64 0, .int .i64 0], .bool false]) (by simp [results, Try.results9, go_sem, c3, d3]) rfl ⟨rfl, ?_⟩
    repeat (first | exact Below.refl _ _ | with_reducible refine bs ?_ (by dsimp only; omega) | with_reducible refine bd ?_ | with_reducible refine ba ?_ | with_reducible refine bt ?_ (by assumption))
end Go.Proofs.Ytojelhdlomcdpaa
