/-
  The walk of the statement that lessened, a moment is the same.
-/
import Derived.Test.YtojelhdlomcdpaaG
import Derived.Deep.RegionHeld3
import Derived.Deep.Cut
import Derived.Lib.ItoaWalk
namespace Go.Proofs.Ytojelhdlomcdpaa
open Go.RowKit

set_option maxHeartbeats 4000000 in
theorem ratLeast_a (n d m c : Int) (w : World) (k : rightB n d = false) :
    Calls Try.prog 6 #[.agg #[.int .i64 n, .int .i64 d], .agg #[.int .i64 m, .int .i64 c]] w fun e w' => e = .returned (.bool true) ∧ Below w.heap.size w w' := by
  go_enter Try.func6, Try.ntmps6
  go_wp2_with (first | (go_at_call 8; refine (awake_any _).mono ?_; rintro e w0 ⟨rfl, hb⟩; obtain ⟨c0, d0, f0, g0, z0⟩ := keep2 hb w.heap.size (.int .i64 n) (.int .i64 d) (by first | omega | (simp; done) | (simp; omega)) (by go_simp) (by go_simp) (by go_simp) (by go_simp); obtain ⟨c1, d1, f1, g1, z1⟩ := keep2 hb (w.heap.size + 1) (.int .i64 m) (.int .i64 c) (by first | omega | (simp; done) | (simp; omega)) (by go_simp) (by go_simp) (by go_simp) (by go_simp)) | (go_at_call 13; refine (right_any _ _ _).mono ?_; rintro e w1 ⟨rfl, hb⟩; obtain ⟨c0, d0, f0, g0, z0⟩ := keep2 hb w.heap.size (.int .i64 n) (.int .i64 d) (by first | omega | (simp; done) | (simp; omega)) (by go_simp) (by go_simp) (by go_simp) (by go_simp); obtain ⟨c1, d1, f1, g1, z1⟩ := keep2 hb (w.heap.size + 1) (.int .i64 m) (.int .i64 c) (by first | omega | (simp; done) | (simp; omega)) (by go_simp) (by go_simp) (by go_simp) (by go_simp)))
  go_ret
  refine ⟨rfl, ?_⟩
  repeat (first | exact Below.refl _ _ | with_reducible refine bs ?_ (by dsimp only; omega) | with_reducible refine bd ?_ | with_reducible refine ba ?_ | with_reducible refine bt ?_ (by assumption))

set_option maxHeartbeats 4000000 in
theorem ratLeast_b (n d m c : Int) (w : World) (k : rightB n d = true) (k1 : rightB m c = false) :
    Calls Try.prog 6 #[.agg #[.int .i64 n, .int .i64 d], .agg #[.int .i64 m, .int .i64 c]] w fun e w' => e = .returned (.bool true) ∧ Below w.heap.size w w' := by
  go_enter Try.func6, Try.ntmps6
  go_wp2_with (first | (go_at_call 8; refine (awake_any _).mono ?_; rintro e w0 ⟨rfl, hb⟩; obtain ⟨c0, d0, f0, g0, z0⟩ := keep2 hb w.heap.size (.int .i64 n) (.int .i64 d) (by first | omega | (simp; done) | (simp; omega)) (by go_simp) (by go_simp) (by go_simp) (by go_simp); obtain ⟨c1, d1, f1, g1, z1⟩ := keep2 hb (w.heap.size + 1) (.int .i64 m) (.int .i64 c) (by first | omega | (simp; done) | (simp; omega)) (by go_simp) (by go_simp) (by go_simp) (by go_simp)) | (go_at_call 13; refine (right_any _ _ _).mono ?_; rintro e w1 ⟨rfl, hb⟩; obtain ⟨c0, d0, f0, g0, z0⟩ := keep2 hb w.heap.size (.int .i64 n) (.int .i64 d) (by first | omega | (simp; done) | (simp; omega)) (by go_simp) (by go_simp) (by go_simp) (by go_simp); obtain ⟨c1, d1, f1, g1, z1⟩ := keep2 hb (w.heap.size + 1) (.int .i64 m) (.int .i64 c) (by first | omega | (simp; done) | (simp; omega)) (by go_simp) (by go_simp) (by go_simp) (by go_simp)))
  go_ret
  refine ⟨rfl, ?_⟩
  repeat (first | exact Below.refl _ _ | with_reducible refine bs ?_ (by dsimp only; omega) | with_reducible refine bd ?_ | with_reducible refine ba ?_ | with_reducible refine bt ?_ (by assumption))

theorem right_yes (n d : Int) (w : World) (h : rightB n d = true) :
    Calls Try.prog 13 #[.agg #[.int .i64 n, .int .i64 d]] w fun e w' => e = .returned (.bool true) ∧ Below w.heap.size w w' := by
  have := right_any n d w
  rw [h] at this; exact this

set_option maxHeartbeats 4000000 in
theorem ratLeast_x (n d m c : Int) (w : World) (k : rightB n d = true) (k1 : rightB m c = true) (t1 : rightB (lN n d) (lD n d) = true) (t2 : cmpI (lN n d) (lD n d) n d = 0) (t3 : lD n d ≤ d) (t4 : cmpI n d n d = 0) (t5 : cmpI m c m c = 0)
    (hh : (cmpI n d m c = -1 ∧ cmpI m c n d = 1 ∧ lN n d ≠ lN m c ∧ m ≠ n) ∨ (cmpI n d m c = -1 ∧ cmpI m c n d = 1 ∧ lN m c = lN n d ∧ lD n d ≠ lD m c ∧ m ≠ n) ∨ (cmpI n d m c = 0 ∧ lN m c = lN n d ∧ lD m c = lD n d) ∨ (cmpI n d m c = 1 ∧ lN n d ≠ lN m c) ∨ (cmpI n d m c = 1 ∧ lN m c = lN n d ∧ lD n d ≠ lD m c)) :
    Calls Try.prog 6 #[.agg #[.int .i64 n, .int .i64 d], .agg #[.int .i64 m, .int .i64 c]] w fun e w' => e = .returned (.bool true) ∧ Below w.heap.size w w' := by
  go_enter Try.func6, Try.ntmps6
  go_wp2_with (first | (go_at_call 8; refine (awake_any _).mono ?_; rintro e w0 ⟨rfl, hb⟩; obtain ⟨c0, d0, f0, g0, z0⟩ := keep2 hb w.heap.size (.int .i64 n) (.int .i64 d) (by first | omega | (simp; done) | (simp; omega)) (by go_simp) (by go_simp) (by go_simp) (by go_simp); obtain ⟨c1, d1, f1, g1, z1⟩ := keep2 hb (w.heap.size + 1) (.int .i64 m) (.int .i64 c) (by first | omega | (simp; done) | (simp; omega)) (by go_simp) (by go_simp) (by go_simp) (by go_simp)) | (go_at_call 13; refine (right_any _ _ _).mono ?_; rintro e w1 ⟨rfl, hb⟩; obtain ⟨c0, d0, f0, g0, z0⟩ := keep2 hb w.heap.size (.int .i64 n) (.int .i64 d) (by first | omega | (simp; done) | (simp; omega)) (by go_simp) (by go_simp) (by go_simp) (by go_simp); obtain ⟨c1, d1, f1, g1, z1⟩ := keep2 hb (w.heap.size + 1) (.int .i64 m) (.int .i64 c) (by first | omega | (simp; done) | (simp; omega)) (by go_simp) (by go_simp) (by go_simp) (by go_simp)))
  go_cut [5, 6] from 18 (fun s5 s6 wx => ∃ bx bw : Nat, s5 = .pointer (some ⟨bx, 0, none⟩) ∧ s6 = .pointer (some ⟨bw, 0, none⟩) ∧ wx.cell? ⟨bx, 0, none⟩ = some (.int .i64 (lN n d)) ∧ wx.cell? ⟨bx, 1, none⟩ = some (.int .i64 (lD n d)) ∧ wx.cell? ⟨bw, 0, none⟩ = some (.int .i64 (lN m c)) ∧ wx.cell? ⟨bw, 1, none⟩ = some (.int .i64 (lD m c)) ∧ bx < wx.heap.size ∧ bw < wx.heap.size ∧ Below w1.heap.size w1 wx)
  case first =>
    clear hh
    (try (obtain y0 : w1.heap.size ≠ w.heap.size; · omega)); (try (obtain y1 : w1.heap.size ≠ w.heap.size + 1; · omega)); (try (obtain y2 : w1.heap.size + 1 ≠ w.heap.size; · omega)); (try (obtain y3 : w1.heap.size + 1 ≠ w.heap.size + 1; · omega))
    go_region_held3 (fun w' => w'.cell? ⟨w.heap.size, 0, none⟩ = some (.int .i64 n) ∧ w'.cell? ⟨w.heap.size, 1, none⟩ = some (.int .i64 d) ∧ w'.cell? ⟨w.heap.size + 1, 0, none⟩ = some (.int .i64 m) ∧ w'.cell? ⟨w.heap.size + 1, 1, none⟩ = some (.int .i64 c)) (go_keep) (first | (go_at_call_of 17 (Value.int IntKind.i64 d); refine (least_yes _ _ _ (by assumption)).mono ?_; rintro e w2 ⟨rfl, hb⟩; obtain ⟨c0, d0, f0, g0, z0⟩ := keep2 hb w.heap.size (.int .i64 n) (.int .i64 d) (by first | omega | (simp; done) | (simp; omega)) (by go_simp) (by go_simp) (by go_simp) (by go_simp); obtain ⟨c1, d1, f1, g1, z1⟩ := keep2 hb (w.heap.size + 1) (.int .i64 m) (.int .i64 c) (by first | omega | (simp; done) | (simp; omega)) (by go_simp) (by go_simp) (by go_simp) (by go_simp); obtain ⟨hc, hf⟩ := bcell hb; have hz := hb.size; (try simp at hz); (try (obtain y0 : w2.heap.size ≠ w1.heap.size; · omega)); (try (obtain y1 : w2.heap.size ≠ w1.heap.size + 1; · omega)); (try (obtain y2 : w2.heap.size + 1 ≠ w1.heap.size; · omega)); (try (obtain y3 : w2.heap.size + 1 ≠ w1.heap.size + 1; · omega)); (try (obtain y4 : w1.heap.size ≤ w2.heap.size; · omega)); (try (obtain y5 : w1.heap.size < w2.heap.size; · omega)); (try (obtain y6 : w1.heap.size + 1 ≤ w2.heap.size; · omega)); (try (obtain y7 : w1.heap.size + 1 < w2.heap.size; · omega)); (try (obtain y8 : w2.heap.size ≠ w.heap.size; · omega)); (try (obtain y9 : w2.heap.size ≠ w.heap.size + 1; · omega)); (try (obtain y10 : w2.heap.size + 1 ≠ w.heap.size; · omega)); (try (obtain y11 : w2.heap.size + 1 ≠ w.heap.size + 1; · omega)); (try (obtain ⟨c5, d5, f5, g5⟩ : (w2.cell? ⟨w1.heap.size, 0, none⟩ = some (Value.int IntKind.i64 0) ∧ w2.cell? ⟨w1.heap.size, 1, none⟩ = some (Value.int IntKind.i64 0) ∧ w2.frozen? ⟨w1.heap.size, 0, none⟩ = false ∧ w2.frozen? ⟨w1.heap.size, 1, none⟩ = false); · (refine ⟨?_, ?_, ?_, ?_⟩ <;> (go_simp; done)))); (try (obtain ⟨c6, d6, f6, g6⟩ : (w2.cell? ⟨w1.heap.size + 1, 0, none⟩ = some (Value.int IntKind.i64 0) ∧ w2.cell? ⟨w1.heap.size + 1, 1, none⟩ = some (Value.int IntKind.i64 0) ∧ w2.frozen? ⟨w1.heap.size + 1, 0, none⟩ = false ∧ w2.frozen? ⟨w1.heap.size + 1, 1, none⟩ = false); · (refine ⟨?_, ?_, ?_, ?_⟩ <;> (go_simp; done))))) | (go_at_call_of 17 (Value.int IntKind.i64 c); refine (least_yes _ _ _ (by assumption)).mono ?_; rintro e w3 ⟨rfl, hb⟩; obtain ⟨c0, d0, f0, g0, z0⟩ := keep2 hb w.heap.size (.int .i64 n) (.int .i64 d) (by first | omega | (simp; done) | (simp; omega)) (by go_simp) (by go_simp) (by go_simp) (by go_simp); obtain ⟨c1, d1, f1, g1, z1⟩ := keep2 hb (w.heap.size + 1) (.int .i64 m) (.int .i64 c) (by first | omega | (simp; done) | (simp; omega)) (by go_simp) (by go_simp) (by go_simp) (by go_simp); obtain ⟨hc, hf⟩ := bcell hb; have hz := hb.size; (try simp at hz); (try (obtain y0 : w3.heap.size ≠ w1.heap.size; · omega)); (try (obtain y1 : w3.heap.size ≠ w1.heap.size + 1; · omega)); (try (obtain y2 : w3.heap.size + 1 ≠ w1.heap.size; · omega)); (try (obtain y3 : w3.heap.size + 1 ≠ w1.heap.size + 1; · omega)); (try (obtain y4 : w1.heap.size ≤ w3.heap.size; · omega)); (try (obtain y5 : w1.heap.size < w3.heap.size; · omega)); (try (obtain y6 : w1.heap.size + 1 ≤ w3.heap.size; · omega)); (try (obtain y7 : w1.heap.size + 1 < w3.heap.size; · omega)); (try (obtain y8 : w3.heap.size ≠ w2.heap.size; · omega)); (try (obtain y9 : w3.heap.size ≠ w2.heap.size + 1; · omega)); (try (obtain y10 : w3.heap.size + 1 ≠ w2.heap.size; · omega)); (try (obtain y11 : w3.heap.size + 1 ≠ w2.heap.size + 1; · omega)); (try (obtain y12 : w2.heap.size ≤ w3.heap.size; · omega)); (try (obtain y13 : w2.heap.size < w3.heap.size; · omega)); (try (obtain y14 : w2.heap.size + 1 ≤ w3.heap.size; · omega)); (try (obtain y15 : w2.heap.size + 1 < w3.heap.size; · omega)); (try (obtain y16 : w3.heap.size ≠ w.heap.size; · omega)); (try (obtain y17 : w3.heap.size ≠ w.heap.size + 1; · omega)); (try (obtain y18 : w3.heap.size + 1 ≠ w.heap.size; · omega)); (try (obtain y19 : w3.heap.size + 1 ≠ w.heap.size + 1; · omega)); (try (obtain ⟨c5, d5, f5, g5⟩ : (w3.cell? ⟨w1.heap.size, 0, none⟩ = some (Value.int IntKind.i64 0) ∧ w3.cell? ⟨w1.heap.size, 1, none⟩ = some (Value.int IntKind.i64 0) ∧ w3.frozen? ⟨w1.heap.size, 0, none⟩ = false ∧ w3.frozen? ⟨w1.heap.size, 1, none⟩ = false); · (refine ⟨?_, ?_, ?_, ?_⟩ <;> (go_simp; done)))); (try (obtain ⟨c6, d6, f6, g6⟩ : (w3.cell? ⟨w1.heap.size + 1, 0, none⟩ = some (Value.int IntKind.i64 0) ∧ w3.cell? ⟨w1.heap.size + 1, 1, none⟩ = some (Value.int IntKind.i64 0) ∧ w3.frozen? ⟨w1.heap.size + 1, 0, none⟩ = false ∧ w3.frozen? ⟨w1.heap.size + 1, 1, none⟩ = false); · (refine ⟨?_, ?_, ?_, ?_⟩ <;> (go_simp; done)))); (try (obtain ⟨c7, d7, f7, g7⟩ : (w3.cell? ⟨w2.heap.size, 0, none⟩ = some (Value.int IntKind.i64 0) ∧ w3.cell? ⟨w2.heap.size, 1, none⟩ = some (Value.int IntKind.i64 0) ∧ w3.frozen? ⟨w2.heap.size, 0, none⟩ = false ∧ w3.frozen? ⟨w2.heap.size, 1, none⟩ = false); · (refine ⟨?_, ?_, ?_, ?_⟩ <;> (go_simp; done)))); (try (obtain ⟨c8, d8, f8, g8⟩ : (w3.cell? ⟨w2.heap.size + 1, 0, none⟩ = some (Value.int IntKind.i64 0) ∧ w3.cell? ⟨w2.heap.size + 1, 1, none⟩ = some (Value.int IntKind.i64 0) ∧ w3.frozen? ⟨w2.heap.size + 1, 0, none⟩ = false ∧ w3.frozen? ⟨w2.heap.size + 1, 1, none⟩ = false); · (refine ⟨?_, ?_, ?_, ?_⟩ <;> (go_simp; done))))))
    all_goals
      go_wp2
      go_meet
      case rel =>
        refine ⟨_, _, rfl, rfl, ?_, ?_, ?_, ?_, ?_, ?_, ?_⟩
        all_goals first | (go_simp; done) | (simp; done) | (simp; omega) | (repeat (first | exact Below.refl _ _ | with_reducible refine bs ?_ (by dsimp only; omega) | with_reducible refine bd ?_ | with_reducible refine ba ?_ | with_reducible refine bt ?_ (by assumption)))
  case rest =>
    obtain ⟨bx, bw, rfl, rfl, p1, p2, p3, p4, p5, p6, hb⟩ := hcut
    obtain ⟨c0, d0, f0, g0, z0⟩ := keep2 hb w.heap.size (.int .i64 n) (.int .i64 d) (by first | omega | (simp; done) | (simp; omega)) (by go_simp) (by go_simp) (by go_simp) (by go_simp)
    obtain ⟨c1, d1, f1, g1, z1⟩ := keep2 hb (w.heap.size + 1) (.int .i64 m) (.int .i64 c) (by first | omega | (simp; done) | (simp; omega)) (by go_simp) (by go_simp) (by go_simp) (by go_simp)
    rcases hh with ⟨h1, h2, h3, h4⟩ | ⟨h1, h2, h3, h4, h5⟩ | ⟨h1, h2, h3⟩ | ⟨h1, h2⟩ | ⟨h1, h2, h3⟩
    · skip
      go_wp2_with (go_at_call 19; refine (max_second _ _ _ _ _ (by omega)).mono ?_; rintro e w4 ⟨rfl, hb⟩; obtain ⟨c0, d0, f0, g0, z0⟩ := keep2 hb w.heap.size (.int .i64 n) (.int .i64 d) (by first | omega | (simp; done) | (simp; omega)) (by go_simp) (by go_simp) (by go_simp) (by go_simp); obtain ⟨c1, d1, f1, g1, z1⟩ := keep2 hb (w.heap.size + 1) (.int .i64 m) (.int .i64 c) (by first | omega | (simp; done) | (simp; omega)) (by go_simp) (by go_simp) (by go_simp) (by go_simp); obtain ⟨x1, x2, x3⟩ := keepc hb bx (by omega); obtain ⟨x4, x5, x6⟩ := keepc hb bw (by omega))
      go_name_world W7 hW7
      have B7 : Below w.heap.size w W7 := by
        subst hW7
        repeat (first | exact Below.refl _ _ | with_reducible refine bs ?_ (by dsimp only; omega) | with_reducible refine bd ?_ | with_reducible refine ba ?_ | with_reducible refine bt ?_ (by assumption))
      have L0 := later_cell (W := W7) (a := ⟨w.heap.size, 0, none⟩) (x := .int .i64 n) (by subst hW7; first | (simp; done) | (simp; omega)) (by subst hW7; go_simp)
      have M0 := later_cell (W := W7) (a := ⟨w.heap.size, 1, none⟩) (x := .int .i64 d) (by subst hW7; first | (simp; done) | (simp; omega)) (by subst hW7; go_simp)
      have L1 := later_cell (W := W7) (a := ⟨w.heap.size + 1, 0, none⟩) (x := .int .i64 m) (by subst hW7; first | (simp; done) | (simp; omega)) (by subst hW7; go_simp)
      have M1 := later_cell (W := W7) (a := ⟨w.heap.size + 1, 1, none⟩) (x := .int .i64 c) (by subst hW7; first | (simp; done) | (simp; omega)) (by subst hW7; go_simp)
      have L2 := later_cell (W := W7) (a := ⟨bx, 0, none⟩) (x := .int .i64 (lN n d)) (by subst hW7; first | (simp; done) | (simp; omega)) (by subst hW7; go_simp)
      have M2 := later_cell (W := W7) (a := ⟨bx, 1, none⟩) (x := .int .i64 (lD n d)) (by subst hW7; first | (simp; done) | (simp; omega)) (by subst hW7; go_simp)
      have L3 := later_cell (W := W7) (a := ⟨bw, 0, none⟩) (x := .int .i64 (lN m c)) (by subst hW7; first | (simp; done) | (simp; omega)) (by subst hW7; go_simp)
      have M3 := later_cell (W := W7) (a := ⟨bw, 1, none⟩) (x := .int .i64 (lD m c)) (by subst hW7; first | (simp; done) | (simp; omega)) (by subst hW7; go_simp)
      have L4 := later_cell (W := W7) (a := ⟨w4.heap.size, 0, none⟩) (x := .int .i64 m) (by subst hW7; first | (simp; done) | (simp; omega)) (by subst hW7; go_simp)
      have M4 := later_cell (W := W7) (a := ⟨w4.heap.size, 1, none⟩) (x := .int .i64 c) (by subst hW7; first | (simp; done) | (simp; omega)) (by subst hW7; go_simp)
      clear hW7
      have ne : Nonempty (Later W7) := ⟨⟨W7, Below.refl _ _⟩⟩
      refine wp_region_later (by kernel_rfl) (by kernel_rfl) ?_
      repeat (go_big_quiet_step (first | (go_at_call 15; exact calls_later (cmp_any _ _ _ _ _)) | (go_at_call 13; exact calls_later (right_yes _ _ _ (by assumption)))))
      refine wpQuiet_nil ?_
      rintro _ ⟨⟨wq, hq⟩, rfl⟩
      clear L0 M0 L1 M1 L2 M2 L3 M3 L4 M4 ne
      go_wp2
      go_ret
      exact ⟨rfl, bt B7 hq⟩
    · skip
      go_wp2_with (go_at_call 19; refine (max_second _ _ _ _ _ (by omega)).mono ?_; rintro e w4 ⟨rfl, hb⟩; obtain ⟨c0, d0, f0, g0, z0⟩ := keep2 hb w.heap.size (.int .i64 n) (.int .i64 d) (by first | omega | (simp; done) | (simp; omega)) (by go_simp) (by go_simp) (by go_simp) (by go_simp); obtain ⟨c1, d1, f1, g1, z1⟩ := keep2 hb (w.heap.size + 1) (.int .i64 m) (.int .i64 c) (by first | omega | (simp; done) | (simp; omega)) (by go_simp) (by go_simp) (by go_simp) (by go_simp); obtain ⟨x1, x2, x3⟩ := keepc hb bx (by omega); obtain ⟨x4, x5, x6⟩ := keepc hb bw (by omega))
      go_name_world W7 hW7
      have B7 : Below w.heap.size w W7 := by
        subst hW7
        repeat (first | exact Below.refl _ _ | with_reducible refine bs ?_ (by dsimp only; omega) | with_reducible refine bd ?_ | with_reducible refine ba ?_ | with_reducible refine bt ?_ (by assumption))
      have L0 := later_cell (W := W7) (a := ⟨w.heap.size, 0, none⟩) (x := .int .i64 n) (by subst hW7; first | (simp; done) | (simp; omega)) (by subst hW7; go_simp)
      have M0 := later_cell (W := W7) (a := ⟨w.heap.size, 1, none⟩) (x := .int .i64 d) (by subst hW7; first | (simp; done) | (simp; omega)) (by subst hW7; go_simp)
      have L1 := later_cell (W := W7) (a := ⟨w.heap.size + 1, 0, none⟩) (x := .int .i64 m) (by subst hW7; first | (simp; done) | (simp; omega)) (by subst hW7; go_simp)
      have M1 := later_cell (W := W7) (a := ⟨w.heap.size + 1, 1, none⟩) (x := .int .i64 c) (by subst hW7; first | (simp; done) | (simp; omega)) (by subst hW7; go_simp)
      have L2 := later_cell (W := W7) (a := ⟨bx, 0, none⟩) (x := .int .i64 (lN n d)) (by subst hW7; first | (simp; done) | (simp; omega)) (by subst hW7; go_simp)
      have M2 := later_cell (W := W7) (a := ⟨bx, 1, none⟩) (x := .int .i64 (lD n d)) (by subst hW7; first | (simp; done) | (simp; omega)) (by subst hW7; go_simp)
      have L3 := later_cell (W := W7) (a := ⟨bw, 0, none⟩) (x := .int .i64 (lN m c)) (by subst hW7; first | (simp; done) | (simp; omega)) (by subst hW7; go_simp)
      have M3 := later_cell (W := W7) (a := ⟨bw, 1, none⟩) (x := .int .i64 (lD m c)) (by subst hW7; first | (simp; done) | (simp; omega)) (by subst hW7; go_simp)
      have L4 := later_cell (W := W7) (a := ⟨w4.heap.size, 0, none⟩) (x := .int .i64 m) (by subst hW7; first | (simp; done) | (simp; omega)) (by subst hW7; go_simp)
      have M4 := later_cell (W := W7) (a := ⟨w4.heap.size, 1, none⟩) (x := .int .i64 c) (by subst hW7; first | (simp; done) | (simp; omega)) (by subst hW7; go_simp)
      clear hW7
      have ne : Nonempty (Later W7) := ⟨⟨W7, Below.refl _ _⟩⟩
      refine wp_region_later (by kernel_rfl) (by kernel_rfl) ?_
      repeat (go_big_quiet_step (first | (go_at_call 15; exact calls_later (cmp_any _ _ _ _ _)) | (go_at_call 13; exact calls_later (right_yes _ _ _ (by assumption)))))
      refine wpQuiet_nil ?_
      rintro _ ⟨⟨wq, hq⟩, rfl⟩
      clear L0 M0 L1 M1 L2 M2 L3 M3 L4 M4 ne
      go_wp2
      go_ret
      exact ⟨rfl, bt B7 hq⟩
    · skip
      go_wp2_with (go_at_call 19; refine (max_first _ _ _ _ _ (by omega)).mono ?_; rintro e w4 ⟨rfl, hb⟩; obtain ⟨c0, d0, f0, g0, z0⟩ := keep2 hb w.heap.size (.int .i64 n) (.int .i64 d) (by first | omega | (simp; done) | (simp; omega)) (by go_simp) (by go_simp) (by go_simp) (by go_simp); obtain ⟨c1, d1, f1, g1, z1⟩ := keep2 hb (w.heap.size + 1) (.int .i64 m) (.int .i64 c) (by first | omega | (simp; done) | (simp; omega)) (by go_simp) (by go_simp) (by go_simp) (by go_simp); obtain ⟨x1, x2, x3⟩ := keepc hb bx (by omega); obtain ⟨x4, x5, x6⟩ := keepc hb bw (by omega))
      go_name_world W7 hW7
      have B7 : Below w.heap.size w W7 := by
        subst hW7
        repeat (first | exact Below.refl _ _ | with_reducible refine bs ?_ (by dsimp only; omega) | with_reducible refine bd ?_ | with_reducible refine ba ?_ | with_reducible refine bt ?_ (by assumption))
      have L0 := later_cell (W := W7) (a := ⟨w.heap.size, 0, none⟩) (x := .int .i64 n) (by subst hW7; first | (simp; done) | (simp; omega)) (by subst hW7; go_simp)
      have M0 := later_cell (W := W7) (a := ⟨w.heap.size, 1, none⟩) (x := .int .i64 d) (by subst hW7; first | (simp; done) | (simp; omega)) (by subst hW7; go_simp)
      have L1 := later_cell (W := W7) (a := ⟨w.heap.size + 1, 0, none⟩) (x := .int .i64 m) (by subst hW7; first | (simp; done) | (simp; omega)) (by subst hW7; go_simp)
      have M1 := later_cell (W := W7) (a := ⟨w.heap.size + 1, 1, none⟩) (x := .int .i64 c) (by subst hW7; first | (simp; done) | (simp; omega)) (by subst hW7; go_simp)
      have L2 := later_cell (W := W7) (a := ⟨bx, 0, none⟩) (x := .int .i64 (lN n d)) (by subst hW7; first | (simp; done) | (simp; omega)) (by subst hW7; go_simp)
      have M2 := later_cell (W := W7) (a := ⟨bx, 1, none⟩) (x := .int .i64 (lD n d)) (by subst hW7; first | (simp; done) | (simp; omega)) (by subst hW7; go_simp)
      have L3 := later_cell (W := W7) (a := ⟨bw, 0, none⟩) (x := .int .i64 (lN m c)) (by subst hW7; first | (simp; done) | (simp; omega)) (by subst hW7; go_simp)
      have M3 := later_cell (W := W7) (a := ⟨bw, 1, none⟩) (x := .int .i64 (lD m c)) (by subst hW7; first | (simp; done) | (simp; omega)) (by subst hW7; go_simp)
      have L4 := later_cell (W := W7) (a := ⟨w4.heap.size, 0, none⟩) (x := .int .i64 n) (by subst hW7; first | (simp; done) | (simp; omega)) (by subst hW7; go_simp)
      have M4 := later_cell (W := W7) (a := ⟨w4.heap.size, 1, none⟩) (x := .int .i64 d) (by subst hW7; first | (simp; done) | (simp; omega)) (by subst hW7; go_simp)
      clear hW7
      have ne : Nonempty (Later W7) := ⟨⟨W7, Below.refl _ _⟩⟩
      refine wp_region_later (by kernel_rfl) (by kernel_rfl) ?_
      repeat (go_big_quiet_step (first | (go_at_call 15; exact calls_later (cmp_any _ _ _ _ _)) | (go_at_call 13; exact calls_later (right_yes _ _ _ (by assumption)))))
      refine wpQuiet_nil ?_
      rintro _ ⟨⟨wq, hq⟩, rfl⟩
      clear L0 M0 L1 M1 L2 M2 L3 M3 L4 M4 ne
      go_wp2
      go_ret
      exact ⟨rfl, bt B7 hq⟩
    · skip
      go_wp2_with (go_at_call 19; refine (max_first _ _ _ _ _ (by omega)).mono ?_; rintro e w4 ⟨rfl, hb⟩; obtain ⟨c0, d0, f0, g0, z0⟩ := keep2 hb w.heap.size (.int .i64 n) (.int .i64 d) (by first | omega | (simp; done) | (simp; omega)) (by go_simp) (by go_simp) (by go_simp) (by go_simp); obtain ⟨c1, d1, f1, g1, z1⟩ := keep2 hb (w.heap.size + 1) (.int .i64 m) (.int .i64 c) (by first | omega | (simp; done) | (simp; omega)) (by go_simp) (by go_simp) (by go_simp) (by go_simp); obtain ⟨x1, x2, x3⟩ := keepc hb bx (by omega); obtain ⟨x4, x5, x6⟩ := keepc hb bw (by omega))
      go_name_world W7 hW7
      have B7 : Below w.heap.size w W7 := by
        subst hW7
        repeat (first | exact Below.refl _ _ | with_reducible refine bs ?_ (by dsimp only; omega) | with_reducible refine bd ?_ | with_reducible refine ba ?_ | with_reducible refine bt ?_ (by assumption))
      have L0 := later_cell (W := W7) (a := ⟨w.heap.size, 0, none⟩) (x := .int .i64 n) (by subst hW7; first | (simp; done) | (simp; omega)) (by subst hW7; go_simp)
      have M0 := later_cell (W := W7) (a := ⟨w.heap.size, 1, none⟩) (x := .int .i64 d) (by subst hW7; first | (simp; done) | (simp; omega)) (by subst hW7; go_simp)
      have L1 := later_cell (W := W7) (a := ⟨w.heap.size + 1, 0, none⟩) (x := .int .i64 m) (by subst hW7; first | (simp; done) | (simp; omega)) (by subst hW7; go_simp)
      have M1 := later_cell (W := W7) (a := ⟨w.heap.size + 1, 1, none⟩) (x := .int .i64 c) (by subst hW7; first | (simp; done) | (simp; omega)) (by subst hW7; go_simp)
      have L2 := later_cell (W := W7) (a := ⟨bx, 0, none⟩) (x := .int .i64 (lN n d)) (by subst hW7; first | (simp; done) | (simp; omega)) (by subst hW7; go_simp)
      have M2 := later_cell (W := W7) (a := ⟨bx, 1, none⟩) (x := .int .i64 (lD n d)) (by subst hW7; first | (simp; done) | (simp; omega)) (by subst hW7; go_simp)
      have L3 := later_cell (W := W7) (a := ⟨bw, 0, none⟩) (x := .int .i64 (lN m c)) (by subst hW7; first | (simp; done) | (simp; omega)) (by subst hW7; go_simp)
      have M3 := later_cell (W := W7) (a := ⟨bw, 1, none⟩) (x := .int .i64 (lD m c)) (by subst hW7; first | (simp; done) | (simp; omega)) (by subst hW7; go_simp)
      have L4 := later_cell (W := W7) (a := ⟨w4.heap.size, 0, none⟩) (x := .int .i64 n) (by subst hW7; first | (simp; done) | (simp; omega)) (by subst hW7; go_simp)
      have M4 := later_cell (W := W7) (a := ⟨w4.heap.size, 1, none⟩) (x := .int .i64 d) (by subst hW7; first | (simp; done) | (simp; omega)) (by subst hW7; go_simp)
      clear hW7
      have ne : Nonempty (Later W7) := ⟨⟨W7, Below.refl _ _⟩⟩
      refine wp_region_later (by kernel_rfl) (by kernel_rfl) ?_
      repeat (go_big_quiet_step (first | (go_at_call 15; exact calls_later (cmp_any _ _ _ _ _)) | (go_at_call 13; exact calls_later (right_yes _ _ _ (by assumption)))))
      refine wpQuiet_nil ?_
      rintro _ ⟨⟨wq, hq⟩, rfl⟩
      clear L0 M0 L1 M1 L2 M2 L3 M3 L4 M4 ne
      go_wp2
      go_ret
      exact ⟨rfl, bt B7 hq⟩
    · skip
      go_wp2_with (go_at_call 19; refine (max_first _ _ _ _ _ (by omega)).mono ?_; rintro e w4 ⟨rfl, hb⟩; obtain ⟨c0, d0, f0, g0, z0⟩ := keep2 hb w.heap.size (.int .i64 n) (.int .i64 d) (by first | omega | (simp; done) | (simp; omega)) (by go_simp) (by go_simp) (by go_simp) (by go_simp); obtain ⟨c1, d1, f1, g1, z1⟩ := keep2 hb (w.heap.size + 1) (.int .i64 m) (.int .i64 c) (by first | omega | (simp; done) | (simp; omega)) (by go_simp) (by go_simp) (by go_simp) (by go_simp); obtain ⟨x1, x2, x3⟩ := keepc hb bx (by omega); obtain ⟨x4, x5, x6⟩ := keepc hb bw (by omega))
      go_name_world W7 hW7
      have B7 : Below w.heap.size w W7 := by
        subst hW7
        repeat (first | exact Below.refl _ _ | with_reducible refine bs ?_ (by dsimp only; omega) | with_reducible refine bd ?_ | with_reducible refine ba ?_ | with_reducible refine bt ?_ (by assumption))
      have L0 := later_cell (W := W7) (a := ⟨w.heap.size, 0, none⟩) (x := .int .i64 n) (by subst hW7; first | (simp; done) | (simp; omega)) (by subst hW7; go_simp)
      have M0 := later_cell (W := W7) (a := ⟨w.heap.size, 1, none⟩) (x := .int .i64 d) (by subst hW7; first | (simp; done) | (simp; omega)) (by subst hW7; go_simp)
      have L1 := later_cell (W := W7) (a := ⟨w.heap.size + 1, 0, none⟩) (x := .int .i64 m) (by subst hW7; first | (simp; done) | (simp; omega)) (by subst hW7; go_simp)
      have M1 := later_cell (W := W7) (a := ⟨w.heap.size + 1, 1, none⟩) (x := .int .i64 c) (by subst hW7; first | (simp; done) | (simp; omega)) (by subst hW7; go_simp)
      have L2 := later_cell (W := W7) (a := ⟨bx, 0, none⟩) (x := .int .i64 (lN n d)) (by subst hW7; first | (simp; done) | (simp; omega)) (by subst hW7; go_simp)
      have M2 := later_cell (W := W7) (a := ⟨bx, 1, none⟩) (x := .int .i64 (lD n d)) (by subst hW7; first | (simp; done) | (simp; omega)) (by subst hW7; go_simp)
      have L3 := later_cell (W := W7) (a := ⟨bw, 0, none⟩) (x := .int .i64 (lN m c)) (by subst hW7; first | (simp; done) | (simp; omega)) (by subst hW7; go_simp)
      have M3 := later_cell (W := W7) (a := ⟨bw, 1, none⟩) (x := .int .i64 (lD m c)) (by subst hW7; first | (simp; done) | (simp; omega)) (by subst hW7; go_simp)
      have L4 := later_cell (W := W7) (a := ⟨w4.heap.size, 0, none⟩) (x := .int .i64 n) (by subst hW7; first | (simp; done) | (simp; omega)) (by subst hW7; go_simp)
      have M4 := later_cell (W := W7) (a := ⟨w4.heap.size, 1, none⟩) (x := .int .i64 d) (by subst hW7; first | (simp; done) | (simp; omega)) (by subst hW7; go_simp)
      clear hW7
      have ne : Nonempty (Later W7) := ⟨⟨W7, Below.refl _ _⟩⟩
      refine wp_region_later (by kernel_rfl) (by kernel_rfl) ?_
      repeat (go_big_quiet_step (first | (go_at_call 15; exact calls_later (cmp_any _ _ _ _ _)) | (go_at_call 13; exact calls_later (right_yes _ _ _ (by assumption)))))
      refine wpQuiet_nil ?_
      rintro _ ⟨⟨wq, hq⟩, rfl⟩
      clear L0 M0 L1 M1 L2 M2 L3 M3 L4 M4 ne
      go_wp2
      go_ret
      exact ⟨rfl, bt B7 hq⟩

set_option maxHeartbeats 4000000 in
theorem ratLeast_same (n d c : Int) (w : World) (k : rightB n d = true) (k1 : rightB n c = true) (t1 : rightB (lN n d) (lD n d) = true) (t2 : cmpI (lN n d) (lD n d) n d = 0) (t3 : lD n d ≤ d) (_t4 : cmpI n d n d = 0) (t5 : cmpI n c n c = 0)
    (hh : (cmpI n d n c = -1 ∧ cmpI n c n d = 1 ∧ lN n d ≠ lN n c ∧ c ≠ d) ∨ (cmpI n d n c = -1 ∧ cmpI n c n d = 1 ∧ lN n c = lN n d ∧ lD n d ≠ lD n c ∧ c ≠ d)) :
    Calls Try.prog 6 #[.agg #[.int .i64 n, .int .i64 d], .agg #[.int .i64 n, .int .i64 c]] w fun e w' => e = .returned (.bool true) ∧ Below w.heap.size w w' := by
  go_enter Try.func6, Try.ntmps6
  go_wp2_with (first | (go_at_call 8; refine (awake_any _).mono ?_; rintro e w0 ⟨rfl, hb⟩; obtain ⟨c0, d0, f0, g0, z0⟩ := keep2 hb w.heap.size (.int .i64 n) (.int .i64 d) (by first | omega | (simp; done) | (simp; omega)) (by go_simp) (by go_simp) (by go_simp) (by go_simp); obtain ⟨c1, d1, f1, g1, z1⟩ := keep2 hb (w.heap.size + 1) (.int .i64 n) (.int .i64 c) (by first | omega | (simp; done) | (simp; omega)) (by go_simp) (by go_simp) (by go_simp) (by go_simp)) | (go_at_call 13; refine (right_any _ _ _).mono ?_; rintro e w1 ⟨rfl, hb⟩; obtain ⟨c0, d0, f0, g0, z0⟩ := keep2 hb w.heap.size (.int .i64 n) (.int .i64 d) (by first | omega | (simp; done) | (simp; omega)) (by go_simp) (by go_simp) (by go_simp) (by go_simp); obtain ⟨c1, d1, f1, g1, z1⟩ := keep2 hb (w.heap.size + 1) (.int .i64 n) (.int .i64 c) (by first | omega | (simp; done) | (simp; omega)) (by go_simp) (by go_simp) (by go_simp) (by go_simp)))
  go_cut [5, 6] from 18 (fun s5 s6 wx => ∃ bx bw : Nat, s5 = .pointer (some ⟨bx, 0, none⟩) ∧ s6 = .pointer (some ⟨bw, 0, none⟩) ∧ wx.cell? ⟨bx, 0, none⟩ = some (.int .i64 (lN n d)) ∧ wx.cell? ⟨bx, 1, none⟩ = some (.int .i64 (lD n d)) ∧ wx.cell? ⟨bw, 0, none⟩ = some (.int .i64 (lN n c)) ∧ wx.cell? ⟨bw, 1, none⟩ = some (.int .i64 (lD n c)) ∧ bx < wx.heap.size ∧ bw < wx.heap.size ∧ Below w1.heap.size w1 wx)
  case first =>
    clear hh
    (try (obtain y0 : w1.heap.size ≠ w.heap.size; · omega)); (try (obtain y1 : w1.heap.size ≠ w.heap.size + 1; · omega)); (try (obtain y2 : w1.heap.size + 1 ≠ w.heap.size; · omega)); (try (obtain y3 : w1.heap.size + 1 ≠ w.heap.size + 1; · omega))
    go_region_held3 (fun w' => w'.cell? ⟨w.heap.size, 0, none⟩ = some (.int .i64 n) ∧ w'.cell? ⟨w.heap.size, 1, none⟩ = some (.int .i64 d) ∧ w'.cell? ⟨w.heap.size + 1, 0, none⟩ = some (.int .i64 n) ∧ w'.cell? ⟨w.heap.size + 1, 1, none⟩ = some (.int .i64 c)) (go_keep) (first | (go_at_call_of 17 (Value.int IntKind.i64 d); refine (least_yes _ _ _ (by assumption)).mono ?_; rintro e w2 ⟨rfl, hb⟩; obtain ⟨c0, d0, f0, g0, z0⟩ := keep2 hb w.heap.size (.int .i64 n) (.int .i64 d) (by first | omega | (simp; done) | (simp; omega)) (by go_simp) (by go_simp) (by go_simp) (by go_simp); obtain ⟨c1, d1, f1, g1, z1⟩ := keep2 hb (w.heap.size + 1) (.int .i64 n) (.int .i64 c) (by first | omega | (simp; done) | (simp; omega)) (by go_simp) (by go_simp) (by go_simp) (by go_simp); obtain ⟨hc, hf⟩ := bcell hb; have hz := hb.size; (try simp at hz); (try (obtain y0 : w2.heap.size ≠ w1.heap.size; · omega)); (try (obtain y1 : w2.heap.size ≠ w1.heap.size + 1; · omega)); (try (obtain y2 : w2.heap.size + 1 ≠ w1.heap.size; · omega)); (try (obtain y3 : w2.heap.size + 1 ≠ w1.heap.size + 1; · omega)); (try (obtain y4 : w1.heap.size ≤ w2.heap.size; · omega)); (try (obtain y5 : w1.heap.size < w2.heap.size; · omega)); (try (obtain y6 : w1.heap.size + 1 ≤ w2.heap.size; · omega)); (try (obtain y7 : w1.heap.size + 1 < w2.heap.size; · omega)); (try (obtain y8 : w2.heap.size ≠ w.heap.size; · omega)); (try (obtain y9 : w2.heap.size ≠ w.heap.size + 1; · omega)); (try (obtain y10 : w2.heap.size + 1 ≠ w.heap.size; · omega)); (try (obtain y11 : w2.heap.size + 1 ≠ w.heap.size + 1; · omega)); (try (obtain ⟨c5, d5, f5, g5⟩ : (w2.cell? ⟨w1.heap.size, 0, none⟩ = some (Value.int IntKind.i64 0) ∧ w2.cell? ⟨w1.heap.size, 1, none⟩ = some (Value.int IntKind.i64 0) ∧ w2.frozen? ⟨w1.heap.size, 0, none⟩ = false ∧ w2.frozen? ⟨w1.heap.size, 1, none⟩ = false); · (refine ⟨?_, ?_, ?_, ?_⟩ <;> (go_simp; done)))); (try (obtain ⟨c6, d6, f6, g6⟩ : (w2.cell? ⟨w1.heap.size + 1, 0, none⟩ = some (Value.int IntKind.i64 0) ∧ w2.cell? ⟨w1.heap.size + 1, 1, none⟩ = some (Value.int IntKind.i64 0) ∧ w2.frozen? ⟨w1.heap.size + 1, 0, none⟩ = false ∧ w2.frozen? ⟨w1.heap.size + 1, 1, none⟩ = false); · (refine ⟨?_, ?_, ?_, ?_⟩ <;> (go_simp; done))))) | (go_at_call_of 17 (Value.int IntKind.i64 c); refine (least_yes _ _ _ (by assumption)).mono ?_; rintro e w3 ⟨rfl, hb⟩; obtain ⟨c0, d0, f0, g0, z0⟩ := keep2 hb w.heap.size (.int .i64 n) (.int .i64 d) (by first | omega | (simp; done) | (simp; omega)) (by go_simp) (by go_simp) (by go_simp) (by go_simp); obtain ⟨c1, d1, f1, g1, z1⟩ := keep2 hb (w.heap.size + 1) (.int .i64 n) (.int .i64 c) (by first | omega | (simp; done) | (simp; omega)) (by go_simp) (by go_simp) (by go_simp) (by go_simp); obtain ⟨hc, hf⟩ := bcell hb; have hz := hb.size; (try simp at hz); (try (obtain y0 : w3.heap.size ≠ w1.heap.size; · omega)); (try (obtain y1 : w3.heap.size ≠ w1.heap.size + 1; · omega)); (try (obtain y2 : w3.heap.size + 1 ≠ w1.heap.size; · omega)); (try (obtain y3 : w3.heap.size + 1 ≠ w1.heap.size + 1; · omega)); (try (obtain y4 : w1.heap.size ≤ w3.heap.size; · omega)); (try (obtain y5 : w1.heap.size < w3.heap.size; · omega)); (try (obtain y6 : w1.heap.size + 1 ≤ w3.heap.size; · omega)); (try (obtain y7 : w1.heap.size + 1 < w3.heap.size; · omega)); (try (obtain y8 : w3.heap.size ≠ w2.heap.size; · omega)); (try (obtain y9 : w3.heap.size ≠ w2.heap.size + 1; · omega)); (try (obtain y10 : w3.heap.size + 1 ≠ w2.heap.size; · omega)); (try (obtain y11 : w3.heap.size + 1 ≠ w2.heap.size + 1; · omega)); (try (obtain y12 : w2.heap.size ≤ w3.heap.size; · omega)); (try (obtain y13 : w2.heap.size < w3.heap.size; · omega)); (try (obtain y14 : w2.heap.size + 1 ≤ w3.heap.size; · omega)); (try (obtain y15 : w2.heap.size + 1 < w3.heap.size; · omega)); (try (obtain y16 : w3.heap.size ≠ w.heap.size; · omega)); (try (obtain y17 : w3.heap.size ≠ w.heap.size + 1; · omega)); (try (obtain y18 : w3.heap.size + 1 ≠ w.heap.size; · omega)); (try (obtain y19 : w3.heap.size + 1 ≠ w.heap.size + 1; · omega)); (try (obtain ⟨c5, d5, f5, g5⟩ : (w3.cell? ⟨w1.heap.size, 0, none⟩ = some (Value.int IntKind.i64 0) ∧ w3.cell? ⟨w1.heap.size, 1, none⟩ = some (Value.int IntKind.i64 0) ∧ w3.frozen? ⟨w1.heap.size, 0, none⟩ = false ∧ w3.frozen? ⟨w1.heap.size, 1, none⟩ = false); · (refine ⟨?_, ?_, ?_, ?_⟩ <;> (go_simp; done)))); (try (obtain ⟨c6, d6, f6, g6⟩ : (w3.cell? ⟨w1.heap.size + 1, 0, none⟩ = some (Value.int IntKind.i64 0) ∧ w3.cell? ⟨w1.heap.size + 1, 1, none⟩ = some (Value.int IntKind.i64 0) ∧ w3.frozen? ⟨w1.heap.size + 1, 0, none⟩ = false ∧ w3.frozen? ⟨w1.heap.size + 1, 1, none⟩ = false); · (refine ⟨?_, ?_, ?_, ?_⟩ <;> (go_simp; done)))); (try (obtain ⟨c7, d7, f7, g7⟩ : (w3.cell? ⟨w2.heap.size, 0, none⟩ = some (Value.int IntKind.i64 0) ∧ w3.cell? ⟨w2.heap.size, 1, none⟩ = some (Value.int IntKind.i64 0) ∧ w3.frozen? ⟨w2.heap.size, 0, none⟩ = false ∧ w3.frozen? ⟨w2.heap.size, 1, none⟩ = false); · (refine ⟨?_, ?_, ?_, ?_⟩ <;> (go_simp; done)))); (try (obtain ⟨c8, d8, f8, g8⟩ : (w3.cell? ⟨w2.heap.size + 1, 0, none⟩ = some (Value.int IntKind.i64 0) ∧ w3.cell? ⟨w2.heap.size + 1, 1, none⟩ = some (Value.int IntKind.i64 0) ∧ w3.frozen? ⟨w2.heap.size + 1, 0, none⟩ = false ∧ w3.frozen? ⟨w2.heap.size + 1, 1, none⟩ = false); · (refine ⟨?_, ?_, ?_, ?_⟩ <;> (go_simp; done))))))
    all_goals
      go_wp2
      go_meet
      case rel =>
        refine ⟨_, _, rfl, rfl, ?_, ?_, ?_, ?_, ?_, ?_, ?_⟩
        all_goals first | (go_simp; done) | (simp; done) | (simp; omega) | (repeat (first | exact Below.refl _ _ | with_reducible refine bs ?_ (by dsimp only; omega) | with_reducible refine bd ?_ | with_reducible refine ba ?_ | with_reducible refine bt ?_ (by assumption)))
  case rest =>
    obtain ⟨bx, bw, rfl, rfl, p1, p2, p3, p4, p5, p6, hb⟩ := hcut
    obtain ⟨c0, d0, f0, g0, z0⟩ := keep2 hb w.heap.size (.int .i64 n) (.int .i64 d) (by first | omega | (simp; done) | (simp; omega)) (by go_simp) (by go_simp) (by go_simp) (by go_simp)
    obtain ⟨c1, d1, f1, g1, z1⟩ := keep2 hb (w.heap.size + 1) (.int .i64 n) (.int .i64 c) (by first | omega | (simp; done) | (simp; omega)) (by go_simp) (by go_simp) (by go_simp) (by go_simp)
    rcases hh with ⟨h1, h2, h3, h4⟩ | ⟨h1, h2, h3, h4, h5⟩
    · skip
      go_wp2_with (go_at_call 19; refine (max_second _ _ _ _ _ (by omega)).mono ?_; rintro e w4 ⟨rfl, hb⟩; obtain ⟨c0, d0, f0, g0, z0⟩ := keep2 hb w.heap.size (.int .i64 n) (.int .i64 d) (by first | omega | (simp; done) | (simp; omega)) (by go_simp) (by go_simp) (by go_simp) (by go_simp); obtain ⟨c1, d1, f1, g1, z1⟩ := keep2 hb (w.heap.size + 1) (.int .i64 n) (.int .i64 c) (by first | omega | (simp; done) | (simp; omega)) (by go_simp) (by go_simp) (by go_simp) (by go_simp); obtain ⟨x1, x2, x3⟩ := keepc hb bx (by omega); obtain ⟨x4, x5, x6⟩ := keepc hb bw (by omega))
      go_name_world W7 hW7
      have B7 : Below w.heap.size w W7 := by
        subst hW7
        repeat (first | exact Below.refl _ _ | with_reducible refine bs ?_ (by dsimp only; omega) | with_reducible refine bd ?_ | with_reducible refine ba ?_ | with_reducible refine bt ?_ (by assumption))
      have L0 := later_cell (W := W7) (a := ⟨w.heap.size, 0, none⟩) (x := .int .i64 n) (by subst hW7; first | (simp; done) | (simp; omega)) (by subst hW7; go_simp)
      have M0 := later_cell (W := W7) (a := ⟨w.heap.size, 1, none⟩) (x := .int .i64 d) (by subst hW7; first | (simp; done) | (simp; omega)) (by subst hW7; go_simp)
      have L1 := later_cell (W := W7) (a := ⟨w.heap.size + 1, 0, none⟩) (x := .int .i64 n) (by subst hW7; first | (simp; done) | (simp; omega)) (by subst hW7; go_simp)
      have M1 := later_cell (W := W7) (a := ⟨w.heap.size + 1, 1, none⟩) (x := .int .i64 c) (by subst hW7; first | (simp; done) | (simp; omega)) (by subst hW7; go_simp)
      have L2 := later_cell (W := W7) (a := ⟨bx, 0, none⟩) (x := .int .i64 (lN n d)) (by subst hW7; first | (simp; done) | (simp; omega)) (by subst hW7; go_simp)
      have M2 := later_cell (W := W7) (a := ⟨bx, 1, none⟩) (x := .int .i64 (lD n d)) (by subst hW7; first | (simp; done) | (simp; omega)) (by subst hW7; go_simp)
      have L3 := later_cell (W := W7) (a := ⟨bw, 0, none⟩) (x := .int .i64 (lN n c)) (by subst hW7; first | (simp; done) | (simp; omega)) (by subst hW7; go_simp)
      have M3 := later_cell (W := W7) (a := ⟨bw, 1, none⟩) (x := .int .i64 (lD n c)) (by subst hW7; first | (simp; done) | (simp; omega)) (by subst hW7; go_simp)
      have L4 := later_cell (W := W7) (a := ⟨w4.heap.size, 0, none⟩) (x := .int .i64 n) (by subst hW7; first | (simp; done) | (simp; omega)) (by subst hW7; go_simp)
      have M4 := later_cell (W := W7) (a := ⟨w4.heap.size, 1, none⟩) (x := .int .i64 c) (by subst hW7; first | (simp; done) | (simp; omega)) (by subst hW7; go_simp)
      clear hW7
      have ne : Nonempty (Later W7) := ⟨⟨W7, Below.refl _ _⟩⟩
      refine wp_region_later (by kernel_rfl) (by kernel_rfl) ?_
      repeat (go_big_quiet_step (first | (go_at_call 15; exact calls_later (cmp_any _ _ _ _ _)) | (go_at_call 13; exact calls_later (right_yes _ _ _ (by assumption)))))
      refine wpQuiet_nil ?_
      rintro _ ⟨⟨wq, hq⟩, rfl⟩
      clear L0 M0 L1 M1 L2 M2 L3 M3 L4 M4 ne
      go_wp2
      go_ret
      exact ⟨rfl, bt B7 hq⟩
    · skip
      go_wp2_with (go_at_call 19; refine (max_second _ _ _ _ _ (by omega)).mono ?_; rintro e w4 ⟨rfl, hb⟩; obtain ⟨c0, d0, f0, g0, z0⟩ := keep2 hb w.heap.size (.int .i64 n) (.int .i64 d) (by first | omega | (simp; done) | (simp; omega)) (by go_simp) (by go_simp) (by go_simp) (by go_simp); obtain ⟨c1, d1, f1, g1, z1⟩ := keep2 hb (w.heap.size + 1) (.int .i64 n) (.int .i64 c) (by first | omega | (simp; done) | (simp; omega)) (by go_simp) (by go_simp) (by go_simp) (by go_simp); obtain ⟨x1, x2, x3⟩ := keepc hb bx (by omega); obtain ⟨x4, x5, x6⟩ := keepc hb bw (by omega))
      go_name_world W7 hW7
      have B7 : Below w.heap.size w W7 := by
        subst hW7
        repeat (first | exact Below.refl _ _ | with_reducible refine bs ?_ (by dsimp only; omega) | with_reducible refine bd ?_ | with_reducible refine ba ?_ | with_reducible refine bt ?_ (by assumption))
      have L0 := later_cell (W := W7) (a := ⟨w.heap.size, 0, none⟩) (x := .int .i64 n) (by subst hW7; first | (simp; done) | (simp; omega)) (by subst hW7; go_simp)
      have M0 := later_cell (W := W7) (a := ⟨w.heap.size, 1, none⟩) (x := .int .i64 d) (by subst hW7; first | (simp; done) | (simp; omega)) (by subst hW7; go_simp)
      have L1 := later_cell (W := W7) (a := ⟨w.heap.size + 1, 0, none⟩) (x := .int .i64 n) (by subst hW7; first | (simp; done) | (simp; omega)) (by subst hW7; go_simp)
      have M1 := later_cell (W := W7) (a := ⟨w.heap.size + 1, 1, none⟩) (x := .int .i64 c) (by subst hW7; first | (simp; done) | (simp; omega)) (by subst hW7; go_simp)
      have L2 := later_cell (W := W7) (a := ⟨bx, 0, none⟩) (x := .int .i64 (lN n d)) (by subst hW7; first | (simp; done) | (simp; omega)) (by subst hW7; go_simp)
      have M2 := later_cell (W := W7) (a := ⟨bx, 1, none⟩) (x := .int .i64 (lD n d)) (by subst hW7; first | (simp; done) | (simp; omega)) (by subst hW7; go_simp)
      have L3 := later_cell (W := W7) (a := ⟨bw, 0, none⟩) (x := .int .i64 (lN n c)) (by subst hW7; first | (simp; done) | (simp; omega)) (by subst hW7; go_simp)
      have M3 := later_cell (W := W7) (a := ⟨bw, 1, none⟩) (x := .int .i64 (lD n c)) (by subst hW7; first | (simp; done) | (simp; omega)) (by subst hW7; go_simp)
      have L4 := later_cell (W := W7) (a := ⟨w4.heap.size, 0, none⟩) (x := .int .i64 n) (by subst hW7; first | (simp; done) | (simp; omega)) (by subst hW7; go_simp)
      have M4 := later_cell (W := W7) (a := ⟨w4.heap.size, 1, none⟩) (x := .int .i64 c) (by subst hW7; first | (simp; done) | (simp; omega)) (by subst hW7; go_simp)
      clear hW7
      have ne : Nonempty (Later W7) := ⟨⟨W7, Below.refl _ _⟩⟩
      refine wp_region_later (by kernel_rfl) (by kernel_rfl) ?_
      repeat (go_big_quiet_step (first | (go_at_call 15; exact calls_later (cmp_any _ _ _ _ _)) | (go_at_call 13; exact calls_later (right_yes _ _ _ (by assumption)))))
      refine wpQuiet_nil ?_
      rintro _ ⟨⟨wq, hq⟩, rfl⟩
      clear L0 M0 L1 M1 L2 M2 L3 M3 L4 M4 ne
      go_wp2
      go_ret
      exact ⟨rfl, bt B7 hq⟩

end Go.Proofs.Ytojelhdlomcdpaa
