/-
  The walk of the test whether a unit begins.
-/
import Derived.Test.YtkljakeccfnakaaGreatDoorHabc
namespace Go.Proofs.YtkljakeccfnakaaGreatDoor
open Go.RowKit

set_option maxHeartbeats 4000000 in
theorem beginsUnit_any (t : Tok) (w : World) :
    Calls Tryz.prog 178 #[tkV t] w fun e w' => e = .returned (.bool (begins t)) ∧ Below w.heap.size w w' := by
  unfold tkV
  cases c0 : (t.text == [33])
  rotate_left
  · have E : Hid (begins t = true) := by show _ = _; unfold begins; rw [eq_of_beq c0]; rfl
    go_enter Tryz.func178, Tryz.ntmps178
    go_wp2
    go_ret
    exact ⟨ret_bool (by rw [E.out]), ba (Below.refl _ _)⟩
  cases c1 : (t.text == [112, 114, 105, 110, 116])
  rotate_left
  · have E : Hid (begins t = true) := by show _ = _; unfold begins; rw [eq_of_beq c1]; rfl
    go_enter Tryz.func178, Tryz.ntmps178
    go_wp2
    go_ret
    exact ⟨ret_bool (by rw [E.out]), ba (Below.refl _ _)⟩
  cases c2 : (t.text == [115, 119, 97, 112])
  rotate_left
  · have E : Hid (begins t = true) := by show _ = _; unfold begins; rw [eq_of_beq c2]; rfl
    go_enter Tryz.func178, Tryz.ntmps178
    go_wp2
    go_ret
    exact ⟨ret_bool (by rw [E.out]), ba (Below.refl _ _)⟩
  cases c3 : (t.text == [97, 100, 100])
  rotate_left
  · have E : Hid (begins t = true) := by show _ = _; unfold begins; rw [eq_of_beq c3]; rfl
    go_enter Tryz.func178, Tryz.ntmps178
    go_wp2
    go_ret
    exact ⟨ret_bool (by rw [E.out]), ba (Below.refl _ _)⟩
  cases c4 : (t.text == [99, 97, 115])
  rotate_left
  · have E : Hid (begins t = true) := by show _ = _; unfold begins; rw [eq_of_beq c4]; rfl
    go_enter Tryz.func178, Tryz.ntmps178
    go_wp2
    go_ret
    exact ⟨ret_bool (by rw [E.out]), ba (Below.refl _ _)⟩
  cases c5 : (t.text == [115, 111, 109, 101])
  rotate_left
  · have E : Hid (begins t = true) := by show _ = _; unfold begins; rw [eq_of_beq c5]; rfl
    go_enter Tryz.func178, Tryz.ntmps178
    go_wp2
    go_ret
    exact ⟨ret_bool (by rw [E.out]), ba (Below.refl _ _)⟩
  cases c6 : (t.text == [110, 111, 110, 101])
  rotate_left
  · have E : Hid (begins t = true) := by show _ = _; unfold begins; rw [eq_of_beq c6]; rfl
    go_enter Tryz.func178, Tryz.ntmps178
    go_wp2
    go_ret
    exact ⟨ret_bool (by rw [E.out]), ba (Below.refl _ _)⟩
  cases c7 : (t.text == [116, 114, 117, 101])
  rotate_left
  · have E : Hid (begins t = true) := by show _ = _; unfold begins; rw [eq_of_beq c7]; rfl
    go_enter Tryz.func178, Tryz.ntmps178
    go_wp2
    go_ret
    exact ⟨ret_bool (by rw [E.out]), ba (Below.refl _ _)⟩
  cases c8 : (t.text == [102, 97, 108, 115, 101])
  rotate_left
  · have E : Hid (begins t = true) := by show _ = _; unfold begins; rw [eq_of_beq c8]; rfl
    go_enter Tryz.func178, Tryz.ntmps178
    go_wp2
    go_ret
    exact ⟨ret_bool (by rw [E.out]), ba (Below.refl _ _)⟩
  cases c9 : (t.text == [40])
  rotate_left
  · have E : Hid (begins t = true) := by show _ = _; unfold begins; rw [eq_of_beq c9]; rfl
    go_enter Tryz.func178, Tryz.ntmps178
    go_wp2
    go_ret
    exact ⟨ret_bool (by rw [E.out]), ba (Below.refl _ _)⟩
  have E : begins t = ((t.kind == 1) || (t.kind == 3)) := by
    unfold begins
    have : firstL.contains t.text = false := by
      rw [Bool.eq_false_iff, Ne, List.contains_iff_mem]
      simp only [firstL, List.mem_cons, List.not_mem_nil, or_false, not_or]
      exact ⟨(fun e => by rw [e] at c0; cases c0), (fun e => by rw [e] at c1; cases c1), (fun e => by rw [e] at c2; cases c2), (fun e => by rw [e] at c3; cases c3), (fun e => by rw [e] at c4; cases c4), (fun e => by rw [e] at c5; cases c5), (fun e => by rw [e] at c6; cases c6), (fun e => by rw [e] at c7; cases c7), (fun e => by rw [e] at c8; cases c8), (fun e => by rw [e] at c9; cases c9)⟩
    rw [this]; rfl
  have E1 : ((t.kind : Int) == 1) = (t.kind == 1) := by rw [Bool.eq_iff_iff, beq_iff_eq, beq_iff_eq]; omega
  have E3 : ((t.kind : Int) == 3) = (t.kind == 3) := by rw [Bool.eq_iff_iff, beq_iff_eq, beq_iff_eq]; omega
  rw [E]
  clear E
  cases q1 : (t.kind == 1)
  · rw [q1] at E1
    cases q3 : (t.kind == 3)
    · rw [q3] at E3
      clear q1 q3
      go_enter Tryz.func178, Tryz.ntmps178
      go_wp2
      go_ret
      exact ⟨ret_bool (by rfl), ba (Below.refl _ _)⟩
    · rw [q3] at E3
      clear q1 q3
      go_enter Tryz.func178, Tryz.ntmps178
      go_wp2
      go_ret
      exact ⟨ret_bool (by rfl), ba (Below.refl _ _)⟩
  · rw [q1] at E1
    clear q1 E3
    go_enter Tryz.func178, Tryz.ntmps178
    go_wp2
    go_ret
    exact ⟨ret_bool (by rfl), ba (Below.refl _ _)⟩
end Go.Proofs.YtkljakeccfnakaaGreatDoor
