/-
  What the program and the document answer, each in one form, and the walk of the statement that they answer the same.
-/
import Derived.Test.YtojelhdlomcdpaaO
import Derived.Test.YtojelhdlomcdpaaG
import Derived.Lib.ItoaWalk
namespace Go.Proofs.Ytojelhdlomcdpaa
open Go.RowKit

def btB (n d m c : Int) : Bool := decide (cmpI n d m c = -1) && rightB (lN n d + lN m c) (lD n d + lD m c)
def btN (n d m c : Int) : Int := if btB n d m c = true then lN n d + lN m c else 0
def btD (n d m c : Int) : Int := if btB n d m c = true then lD n d + lD m c else 0
def afB (n d : Int) : Bool := rightB n d && rightB (aftI n d) 1
def afN (n d : Int) : Int := if afB n d = true then aftI n d else 0
def afD (n d : Int) : Int := if afB n d = true then 1 else 0
def mxN (n d m c : Int) : Int := if cmpI n d m c = -1 then m else n
def mxD (n d m c : Int) : Int := if cmpI n d m c = -1 then c else d
theorem cmpI_all (n d m c : Int) : cmpI n d m c = -1 ∨ 0 ≤ cmpI n d m c := by
  unfold cmpI; split
  · rcases sgn_cases (n * c) (m * d) with ⟨_, b⟩ | ⟨_, b⟩ | ⟨_, b⟩ <;> omega
  · omega
theorem cmpI_swap (n d m c : Int) : cmpI m c n d = - cmpI n d m c := by
  unfold cmpI
  by_cases h : rightB n d = true ∧ rightB m c = true
  · rw [if_pos h, if_pos ⟨h.2, h.1⟩]; exact sgn_neg _ _
  · rw [if_neg h, if_neg (fun g => h ⟨g.2, g.1⟩)]; rfl

theorem between_any (n d m c : Int) (w : World) :
    Calls Try.prog 9 #[.agg #[.int .i64 n, .int .i64 d], .agg #[.int .i64 m, .int .i64 c]] w fun e w' => e = .returned (.tuple #[.agg #[.int .i64 (btN n d m c), .int .i64 (btD n d m c)], .bool (btB n d m c)]) ∧ Below w.heap.size w w' := by
  rcases cmpI_all n d m c with h | h
  · cases hr : rightB (lN n d + lN m c) (lD n d + lD m c)
    · have := between_far n d m c w h hr
      simpa [btN, btD, btB, h, hr] using this
    · have := between_yes n d m c w h hr
      simpa [btN, btD, btB, h, hr] using this
  · have := between_no n d m c w h
    have h' : ¬ cmpI n d m c = -1 := by omega
    simpa [btN, btD, btB, h'] using this
theorem refBetween_any (n d m c : Int) (w : World) :
    Calls Try.prog 10 #[.agg #[.int .i64 n, .int .i64 d], .agg #[.int .i64 m, .int .i64 c]] w fun e w' => e = .returned (.tuple #[.agg #[.int .i64 (btN n d m c), .int .i64 (btD n d m c)], .bool (btB n d m c)]) ∧ Below w.heap.size w w' := by
  rcases cmpI_all n d m c with h | h
  · cases hr : rightB (lN n d + lN m c) (lD n d + lD m c)
    · have := refBetween_far n d m c w h hr
      simpa [btN, btD, btB, h, hr] using this
    · have := refBetween_yes n d m c w h hr
      simpa [btN, btD, btB, h, hr] using this
  · have h' : ¬ cmpI n d m c = -1 := by omega
    have := refBetween_no n d m c w (by simpa using h')
    simpa [btN, btD, btB, h'] using this
theorem after_any (n d : Int) (w : World) :
    Calls Try.prog 11 #[.agg #[.int .i64 n, .int .i64 d]] w fun e w' => e = .returned (.tuple #[.agg #[.int .i64 (afN n d), .int .i64 (afD n d)], .bool (afB n d)]) ∧ Below w.heap.size w w' := by
  cases h : rightB n d
  · have := after_no n d w h
    simpa [afN, afD, afB, h] using this
  · cases hr : rightB (aftI n d) 1
    · have := after_far n d w h hr
      simpa [afN, afD, afB, h, hr] using this
    · have := after_yes n d w h hr
      simpa [afN, afD, afB, h, hr] using this
theorem refAfter_any (n d : Int) (w : World) :
    Calls Try.prog 12 #[.agg #[.int .i64 n, .int .i64 d]] w fun e w' => e = .returned (.tuple #[.agg #[.int .i64 (afN n d), .int .i64 (afD n d)], .bool (afB n d)]) ∧ Below w.heap.size w w' := by
  cases h : rightB n d
  · have := refAfter_no n d w h
    simpa [afN, afD, afB, h] using this
  · cases hr : rightB (aftI n d) 1
    · have := refAfter_far n d w h hr
      simpa [afN, afD, afB, h, hr] using this
    · have := refAfter_yes n d w h hr
      simpa [afN, afD, afB, h, hr] using this
theorem refLeast_any (n d : Int) (w : World) :
    Calls Try.prog 18 #[.agg #[.int .i64 n, .int .i64 d]] w fun e w' => e = .returned (.agg #[.int .i64 (lsN n d), .int .i64 (lsD n d)]) ∧ Below w.heap.size w w' := by
  cases h : rightB n d
  · have := refLeast_no n d w h
    simpa [lsN, lsD, h] using this
  · have := refLeast_yes n d w h
    simpa [lsN, lsD, h] using this
theorem max_any (n d m c : Int) (w : World) :
    Calls Try.prog 19 #[.agg #[.int .i64 n, .int .i64 d], .agg #[.int .i64 m, .int .i64 c]] w fun e w' => e = .returned (.agg #[.int .i64 (mxN n d m c), .int .i64 (mxD n d m c)]) ∧ Below w.heap.size w w' := by
  rcases cmpI_all n d m c with h | h
  · have := max_second n d m c w h
    simpa [mxN, mxD, h] using this
  · have := max_first n d m c w h
    have h' : ¬ cmpI n d m c = -1 := by omega
    simpa [mxN, mxD, h'] using this
theorem refMax_any (n d m c : Int) (w : World) :
    Calls Try.prog 20 #[.agg #[.int .i64 n, .int .i64 d], .agg #[.int .i64 m, .int .i64 c]] w fun e w' => e = .returned (.agg #[.int .i64 (mxN n d m c), .int .i64 (mxD n d m c)]) ∧ Below w.heap.size w w' := by
  have sw := cmpI_swap n d m c
  rcases cmpI_all n d m c with h | h
  · have := refMax_second n d m c w (by omega)
    simpa [mxN, mxD, h] using this
  · have := refMax_first n d m c w (by rw [beq_eq_false_iff_ne]; omega)
    have h' : ¬ cmpI n d m c = -1 := by omega
    simpa [mxN, mxD, h'] using this

set_option maxHeartbeats 4000000 in
theorem ratAll_any (n d m c : Int) (w : World) :
    Calls Try.prog 3 #[.agg #[.int .i64 n, .int .i64 d], .agg #[.int .i64 m, .int .i64 c]] w fun e w' => e = .returned (.bool true) ∧ Below w.heap.size w w' := by
  go_enter Try.func3, Try.ntmps3
  go_wp2_with (first | (go_at_call 8; refine (awake_any _).mono ?_; rintro e w0 ⟨rfl, hb⟩; obtain ⟨c0, d0, f0, g0, z0⟩ := keep2 hb w.heap.size (.int .i64 n) (.int .i64 d) (by first | omega | (simp; done) | (simp; omega)) (by go_simp) (by go_simp) (by go_simp) (by go_simp); obtain ⟨c1, d1, f1, g1, z1⟩ := keep2 hb (w.heap.size + 1) (.int .i64 m) (.int .i64 c) (by first | omega | (simp; done) | (simp; omega)) (by go_simp) (by go_simp) (by go_simp) (by go_simp)) | (go_at_call 9; refine (between_any _ _ _ _ _).mono ?_; rintro e w1 ⟨rfl, hb⟩; obtain ⟨c0, d0, f0, g0, z0⟩ := keep2 hb w.heap.size (.int .i64 n) (.int .i64 d) (by first | omega | (simp; done) | (simp; omega)) (by go_simp) (by go_simp) (by go_simp) (by go_simp); obtain ⟨c1, d1, f1, g1, z1⟩ := keep2 hb (w.heap.size + 1) (.int .i64 m) (.int .i64 c) (by first | omega | (simp; done) | (simp; omega)) (by go_simp) (by go_simp) (by go_simp) (by go_simp)) | (go_at_call 10; refine (refBetween_any _ _ _ _ _).mono ?_; rintro e w2 ⟨rfl, hb⟩; obtain ⟨c0, d0, f0, g0, z0⟩ := keep2 hb w.heap.size (.int .i64 n) (.int .i64 d) (by first | omega | (simp; done) | (simp; omega)) (by go_simp) (by go_simp) (by go_simp) (by go_simp); obtain ⟨c1, d1, f1, g1, z1⟩ := keep2 hb (w.heap.size + 1) (.int .i64 m) (.int .i64 c) (by first | omega | (simp; done) | (simp; omega)) (by go_simp) (by go_simp) (by go_simp) (by go_simp); obtain ⟨c2, d2, f2, g2, z2⟩ := keep2 hb w1.heap.size (.int .i64 (btN n d m c)) (.int .i64 (btD n d m c)) (by first | omega | (simp; done) | (simp; omega)) (by go_simp) (by go_simp) (by go_simp) (by go_simp)) | (go_at_call 11; refine (after_any _ _ _).mono ?_; rintro e w3 ⟨rfl, hb⟩; obtain ⟨c0, d0, f0, g0, z0⟩ := keep2 hb w.heap.size (.int .i64 n) (.int .i64 d) (by first | omega | (simp; done) | (simp; omega)) (by go_simp) (by go_simp) (by go_simp) (by go_simp); obtain ⟨c1, d1, f1, g1, z1⟩ := keep2 hb (w.heap.size + 1) (.int .i64 m) (.int .i64 c) (by first | omega | (simp; done) | (simp; omega)) (by go_simp) (by go_simp) (by go_simp) (by go_simp); obtain ⟨c2, d2, f2, g2, z2⟩ := keep2 hb w1.heap.size (.int .i64 (btN n d m c)) (.int .i64 (btD n d m c)) (by first | omega | (simp; done) | (simp; omega)) (by go_simp) (by go_simp) (by go_simp) (by go_simp); obtain ⟨c3, d3, f3, g3, z3⟩ := keep2 hb w2.heap.size (.int .i64 (btN n d m c)) (.int .i64 (btD n d m c)) (by first | omega | (simp; done) | (simp; omega)) (by go_simp) (by go_simp) (by go_simp) (by go_simp)) | (go_at_call 12; refine (refAfter_any _ _ _).mono ?_; rintro e w4 ⟨rfl, hb⟩; obtain ⟨c0, d0, f0, g0, z0⟩ := keep2 hb w.heap.size (.int .i64 n) (.int .i64 d) (by first | omega | (simp; done) | (simp; omega)) (by go_simp) (by go_simp) (by go_simp) (by go_simp); obtain ⟨c1, d1, f1, g1, z1⟩ := keep2 hb (w.heap.size + 1) (.int .i64 m) (.int .i64 c) (by first | omega | (simp; done) | (simp; omega)) (by go_simp) (by go_simp) (by go_simp) (by go_simp); obtain ⟨c2, d2, f2, g2, z2⟩ := keep2 hb w1.heap.size (.int .i64 (btN n d m c)) (.int .i64 (btD n d m c)) (by first | omega | (simp; done) | (simp; omega)) (by go_simp) (by go_simp) (by go_simp) (by go_simp); obtain ⟨c3, d3, f3, g3, z3⟩ := keep2 hb w2.heap.size (.int .i64 (btN n d m c)) (.int .i64 (btD n d m c)) (by first | omega | (simp; done) | (simp; omega)) (by go_simp) (by go_simp) (by go_simp) (by go_simp); obtain ⟨c4, d4, f4, g4, z4⟩ := keep2 hb w3.heap.size (.int .i64 (afN n d)) (.int .i64 (afD n d)) (by first | omega | (simp; done) | (simp; omega)) (by go_simp) (by go_simp) (by go_simp) (by go_simp)))
  go_name_world W7 hW7
  have B7 : Below w.heap.size w W7 := by
    subst hW7
    repeat (first | exact Below.refl _ _ | with_reducible refine bs ?_ (by dsimp only; omega) | with_reducible refine bd ?_ | with_reducible refine ba ?_ | with_reducible refine bt ?_ (by assumption))
  have L0 := later_cell (W := W7) (a := ⟨w.heap.size, 0, none⟩) (x := .int .i64 n) (by subst hW7; first | (simp; done) | (simp; omega)) (by subst hW7; go_simp)
  have M0 := later_cell (W := W7) (a := ⟨w.heap.size, 1, none⟩) (x := .int .i64 d) (by subst hW7; first | (simp; done) | (simp; omega)) (by subst hW7; go_simp)
  have L1 := later_cell (W := W7) (a := ⟨w.heap.size + 1, 0, none⟩) (x := .int .i64 m) (by subst hW7; first | (simp; done) | (simp; omega)) (by subst hW7; go_simp)
  have M1 := later_cell (W := W7) (a := ⟨w.heap.size + 1, 1, none⟩) (x := .int .i64 c) (by subst hW7; first | (simp; done) | (simp; omega)) (by subst hW7; go_simp)
  have L2 := later_cell (W := W7) (a := ⟨w1.heap.size, 0, none⟩) (x := .int .i64 (btN n d m c)) (by subst hW7; first | (simp; done) | (simp; omega)) (by subst hW7; go_simp)
  have M2 := later_cell (W := W7) (a := ⟨w1.heap.size, 1, none⟩) (x := .int .i64 (btD n d m c)) (by subst hW7; first | (simp; done) | (simp; omega)) (by subst hW7; go_simp)
  have L3 := later_cell (W := W7) (a := ⟨w2.heap.size, 0, none⟩) (x := .int .i64 (btN n d m c)) (by subst hW7; first | (simp; done) | (simp; omega)) (by subst hW7; go_simp)
  have M3 := later_cell (W := W7) (a := ⟨w2.heap.size, 1, none⟩) (x := .int .i64 (btD n d m c)) (by subst hW7; first | (simp; done) | (simp; omega)) (by subst hW7; go_simp)
  have L4 := later_cell (W := W7) (a := ⟨w3.heap.size, 0, none⟩) (x := .int .i64 (afN n d)) (by subst hW7; first | (simp; done) | (simp; omega)) (by subst hW7; go_simp)
  have M4 := later_cell (W := W7) (a := ⟨w3.heap.size, 1, none⟩) (x := .int .i64 (afD n d)) (by subst hW7; first | (simp; done) | (simp; omega)) (by subst hW7; go_simp)
  have L5 := later_cell (W := W7) (a := ⟨w4.heap.size, 0, none⟩) (x := .int .i64 (afN n d)) (by subst hW7; first | (simp; done) | (simp; omega)) (by subst hW7; go_simp)
  have M5 := later_cell (W := W7) (a := ⟨w4.heap.size, 1, none⟩) (x := .int .i64 (afD n d)) (by subst hW7; first | (simp; done) | (simp; omega)) (by subst hW7; go_simp)
  clear hW7
  have ne : Nonempty (Later W7) := ⟨⟨W7, Below.refl _ _⟩⟩
  refine wp_region_later (by kernel_rfl) (by kernel_rfl) ?_
  repeat (go_big_quiet_step (first | (go_at_call 13; exact calls_later (right_any _ _ _)) | (go_at_call 14; exact calls_later (refRight_any _ _ _)) | (go_at_call 15; exact calls_later (cmp_any _ _ _ _ _)) | (go_at_call 16; exact calls_later (refCmp_any _ _ _ _ _)) | (go_at_call 17; exact calls_later (least_any _ _ _)) | (go_at_call 18; exact calls_later (refLeast_any _ _ _)) | (go_at_call 19; exact calls_later (max_any _ _ _ _ _)) | (go_at_call 20; exact calls_later (refMax_any _ _ _ _ _))))
  refine wpQuiet_nil ?_
  rintro _ ⟨⟨wq, hq⟩, rfl⟩
  clear L0 M0 L1 M1 L2 M2 L3 M3 L4 M4 L5 M5 ne
  go_wp2
  go_ret
  exact ⟨rfl, bt B7 hq⟩
end Go.Proofs.Ytojelhdlomcdpaa
