/-
  The walks of the document's own kids.
-/
import Derived.Test.YtkljakeccfnakaaGreatDoorTP
import Derived.Test.YtkljakeccfnakaaGreatDoorTd
import Derived.Lib.ConvBytes
namespace Go.Proofs.YtkljakeccfnakaaGreatDoor
open Go.RowKit

/-- The row of the kids' numbers, at one place. -/
def KX (k v : Int) (w : World) : Prop := Sem.run Tryz.prog (Instr.index 132 (.agg #[.int .i64 0, .int .i64 0, .int .i64 0, .int .i64 0, .int .i64 0, .int .i64 2, .int .i64 3, .int .i64 1, .int .i64 2, .int .i64 2, .int .i64 0, .int .i64 1, .int .i64 1, .int .i64 2, .int .i64 1, .int .i64 1, .int .i64 2, .int .i64 1, .int .i64 0, .int .i64 1, .int .i64 2, .int .i64 2, .int .i64 2, .int .i64 2, .int .i64 3, .int .i64 2]) (.int .i64 k)) w = .ok (.int .i64 v) w
theorem kix1 (w : World) : KX 1 0 w := by unfold KX; kernel_rfl
theorem kix2 (w : World) : KX 2 0 w := by unfold KX; kernel_rfl
theorem kix3 (w : World) : KX 3 0 w := by unfold KX; kernel_rfl
theorem kix4 (w : World) : KX 4 0 w := by unfold KX; kernel_rfl
theorem kix5 (w : World) : KX 5 2 w := by unfold KX; kernel_rfl
theorem kix6 (w : World) : KX 6 3 w := by unfold KX; kernel_rfl
theorem kix7 (w : World) : KX 7 1 w := by unfold KX; kernel_rfl
theorem kix8 (w : World) : KX 8 2 w := by unfold KX; kernel_rfl
theorem kix9 (w : World) : KX 9 2 w := by unfold KX; kernel_rfl
theorem kix10 (w : World) : KX 10 0 w := by unfold KX; kernel_rfl
theorem kix11 (w : World) : KX 11 1 w := by unfold KX; kernel_rfl
theorem kix12 (w : World) : KX 12 1 w := by unfold KX; kernel_rfl
theorem kix13 (w : World) : KX 13 2 w := by unfold KX; kernel_rfl
theorem kix14 (w : World) : KX 14 1 w := by unfold KX; kernel_rfl
theorem kix15 (w : World) : KX 15 1 w := by unfold KX; kernel_rfl
theorem kix16 (w : World) : KX 16 2 w := by unfold KX; kernel_rfl
theorem kix17 (w : World) : KX 17 1 w := by unfold KX; kernel_rfl
theorem kix18 (w : World) : KX 18 0 w := by unfold KX; kernel_rfl
theorem kix19 (w : World) : KX 19 1 w := by unfold KX; kernel_rfl
theorem kix20 (w : World) : KX 20 2 w := by unfold KX; kernel_rfl
theorem kix21 (w : World) : KX 21 2 w := by unfold KX; kernel_rfl
theorem kix22 (w : World) : KX 22 2 w := by unfold KX; kernel_rfl
theorem kix23 (w : World) : KX 23 2 w := by unfold KX; kernel_rfl
theorem kix24 (w : World) : KX 24 3 w := by unfold KX; kernel_rfl
theorem kix25 (w : World) : KX 25 2 w := by unfold KX; kernel_rfl

set_option maxHeartbeats 4000000 in
theorem refKids_1 (w : World) : Calls Tryz.prog 61 #[.int .i64 1] w fun e w' => e = .returned (.int .i64 0) ∧ w' = w := by
  have F := kix1
  unfold KX at F
  go_enter Tryz.func61, Tryz.ntmps61
  go_wp2
  go_ret
  exact ⟨rfl, rfl⟩

set_option maxHeartbeats 4000000 in
theorem refKids_2 (w : World) : Calls Tryz.prog 61 #[.int .i64 2] w fun e w' => e = .returned (.int .i64 0) ∧ w' = w := by
  have F := kix2
  unfold KX at F
  go_enter Tryz.func61, Tryz.ntmps61
  go_wp2
  go_ret
  exact ⟨rfl, rfl⟩

set_option maxHeartbeats 4000000 in
theorem refKids_3 (w : World) : Calls Tryz.prog 61 #[.int .i64 3] w fun e w' => e = .returned (.int .i64 0) ∧ w' = w := by
  have F := kix3
  unfold KX at F
  go_enter Tryz.func61, Tryz.ntmps61
  go_wp2
  go_ret
  exact ⟨rfl, rfl⟩

set_option maxHeartbeats 4000000 in
theorem refKids_4 (w : World) : Calls Tryz.prog 61 #[.int .i64 4] w fun e w' => e = .returned (.int .i64 0) ∧ w' = w := by
  have F := kix4
  unfold KX at F
  go_enter Tryz.func61, Tryz.ntmps61
  go_wp2
  go_ret
  exact ⟨rfl, rfl⟩

set_option maxHeartbeats 4000000 in
theorem refKids_5 (w : World) : Calls Tryz.prog 61 #[.int .i64 5] w fun e w' => e = .returned (.int .i64 2) ∧ w' = w := by
  have F := kix5
  unfold KX at F
  go_enter Tryz.func61, Tryz.ntmps61
  go_wp2
  go_ret
  exact ⟨rfl, rfl⟩

set_option maxHeartbeats 4000000 in
theorem refKids_6 (w : World) : Calls Tryz.prog 61 #[.int .i64 6] w fun e w' => e = .returned (.int .i64 3) ∧ w' = w := by
  have F := kix6
  unfold KX at F
  go_enter Tryz.func61, Tryz.ntmps61
  go_wp2
  go_ret
  exact ⟨rfl, rfl⟩

set_option maxHeartbeats 4000000 in
theorem refKids_7 (w : World) : Calls Tryz.prog 61 #[.int .i64 7] w fun e w' => e = .returned (.int .i64 1) ∧ w' = w := by
  have F := kix7
  unfold KX at F
  go_enter Tryz.func61, Tryz.ntmps61
  go_wp2
  go_ret
  exact ⟨rfl, rfl⟩

set_option maxHeartbeats 4000000 in
theorem refKids_8 (w : World) : Calls Tryz.prog 61 #[.int .i64 8] w fun e w' => e = .returned (.int .i64 2) ∧ w' = w := by
  have F := kix8
  unfold KX at F
  go_enter Tryz.func61, Tryz.ntmps61
  go_wp2
  go_ret
  exact ⟨rfl, rfl⟩

set_option maxHeartbeats 4000000 in
theorem refKids_9 (w : World) : Calls Tryz.prog 61 #[.int .i64 9] w fun e w' => e = .returned (.int .i64 2) ∧ w' = w := by
  have F := kix9
  unfold KX at F
  go_enter Tryz.func61, Tryz.ntmps61
  go_wp2
  go_ret
  exact ⟨rfl, rfl⟩

set_option maxHeartbeats 4000000 in
theorem refKids_10 (w : World) : Calls Tryz.prog 61 #[.int .i64 10] w fun e w' => e = .returned (.int .i64 0) ∧ w' = w := by
  have F := kix10
  unfold KX at F
  go_enter Tryz.func61, Tryz.ntmps61
  go_wp2
  go_ret
  exact ⟨rfl, rfl⟩

set_option maxHeartbeats 4000000 in
theorem refKids_11 (w : World) : Calls Tryz.prog 61 #[.int .i64 11] w fun e w' => e = .returned (.int .i64 1) ∧ w' = w := by
  have F := kix11
  unfold KX at F
  go_enter Tryz.func61, Tryz.ntmps61
  go_wp2
  go_ret
  exact ⟨rfl, rfl⟩

set_option maxHeartbeats 4000000 in
theorem refKids_12 (w : World) : Calls Tryz.prog 61 #[.int .i64 12] w fun e w' => e = .returned (.int .i64 1) ∧ w' = w := by
  have F := kix12
  unfold KX at F
  go_enter Tryz.func61, Tryz.ntmps61
  go_wp2
  go_ret
  exact ⟨rfl, rfl⟩

set_option maxHeartbeats 4000000 in
theorem refKids_13 (w : World) : Calls Tryz.prog 61 #[.int .i64 13] w fun e w' => e = .returned (.int .i64 2) ∧ w' = w := by
  have F := kix13
  unfold KX at F
  go_enter Tryz.func61, Tryz.ntmps61
  go_wp2
  go_ret
  exact ⟨rfl, rfl⟩

set_option maxHeartbeats 4000000 in
theorem refKids_14 (w : World) : Calls Tryz.prog 61 #[.int .i64 14] w fun e w' => e = .returned (.int .i64 1) ∧ w' = w := by
  have F := kix14
  unfold KX at F
  go_enter Tryz.func61, Tryz.ntmps61
  go_wp2
  go_ret
  exact ⟨rfl, rfl⟩

set_option maxHeartbeats 4000000 in
theorem refKids_15 (w : World) : Calls Tryz.prog 61 #[.int .i64 15] w fun e w' => e = .returned (.int .i64 1) ∧ w' = w := by
  have F := kix15
  unfold KX at F
  go_enter Tryz.func61, Tryz.ntmps61
  go_wp2
  go_ret
  exact ⟨rfl, rfl⟩

set_option maxHeartbeats 4000000 in
theorem refKids_16 (w : World) : Calls Tryz.prog 61 #[.int .i64 16] w fun e w' => e = .returned (.int .i64 2) ∧ w' = w := by
  have F := kix16
  unfold KX at F
  go_enter Tryz.func61, Tryz.ntmps61
  go_wp2
  go_ret
  exact ⟨rfl, rfl⟩

set_option maxHeartbeats 4000000 in
theorem refKids_17 (w : World) : Calls Tryz.prog 61 #[.int .i64 17] w fun e w' => e = .returned (.int .i64 1) ∧ w' = w := by
  have F := kix17
  unfold KX at F
  go_enter Tryz.func61, Tryz.ntmps61
  go_wp2
  go_ret
  exact ⟨rfl, rfl⟩

set_option maxHeartbeats 4000000 in
theorem refKids_18 (w : World) : Calls Tryz.prog 61 #[.int .i64 18] w fun e w' => e = .returned (.int .i64 0) ∧ w' = w := by
  have F := kix18
  unfold KX at F
  go_enter Tryz.func61, Tryz.ntmps61
  go_wp2
  go_ret
  exact ⟨rfl, rfl⟩

set_option maxHeartbeats 4000000 in
theorem refKids_19 (w : World) : Calls Tryz.prog 61 #[.int .i64 19] w fun e w' => e = .returned (.int .i64 1) ∧ w' = w := by
  have F := kix19
  unfold KX at F
  go_enter Tryz.func61, Tryz.ntmps61
  go_wp2
  go_ret
  exact ⟨rfl, rfl⟩

set_option maxHeartbeats 4000000 in
theorem refKids_20 (w : World) : Calls Tryz.prog 61 #[.int .i64 20] w fun e w' => e = .returned (.int .i64 2) ∧ w' = w := by
  have F := kix20
  unfold KX at F
  go_enter Tryz.func61, Tryz.ntmps61
  go_wp2
  go_ret
  exact ⟨rfl, rfl⟩

set_option maxHeartbeats 4000000 in
theorem refKids_21 (w : World) : Calls Tryz.prog 61 #[.int .i64 21] w fun e w' => e = .returned (.int .i64 2) ∧ w' = w := by
  have F := kix21
  unfold KX at F
  go_enter Tryz.func61, Tryz.ntmps61
  go_wp2
  go_ret
  exact ⟨rfl, rfl⟩

set_option maxHeartbeats 4000000 in
theorem refKids_22 (w : World) : Calls Tryz.prog 61 #[.int .i64 22] w fun e w' => e = .returned (.int .i64 2) ∧ w' = w := by
  have F := kix22
  unfold KX at F
  go_enter Tryz.func61, Tryz.ntmps61
  go_wp2
  go_ret
  exact ⟨rfl, rfl⟩

set_option maxHeartbeats 4000000 in
theorem refKids_23 (w : World) : Calls Tryz.prog 61 #[.int .i64 23] w fun e w' => e = .returned (.int .i64 2) ∧ w' = w := by
  have F := kix23
  unfold KX at F
  go_enter Tryz.func61, Tryz.ntmps61
  go_wp2
  go_ret
  exact ⟨rfl, rfl⟩

set_option maxHeartbeats 4000000 in
theorem refKids_24 (w : World) : Calls Tryz.prog 61 #[.int .i64 24] w fun e w' => e = .returned (.int .i64 3) ∧ w' = w := by
  have F := kix24
  unfold KX at F
  go_enter Tryz.func61, Tryz.ntmps61
  go_wp2
  go_ret
  exact ⟨rfl, rfl⟩

set_option maxHeartbeats 4000000 in
theorem refKids_25 (w : World) : Calls Tryz.prog 61 #[.int .i64 25] w fun e w' => e = .returned (.int .i64 2) ∧ w' = w := by
  have F := kix25
  unfold KX at F
  go_enter Tryz.func61, Tryz.ntmps61
  go_wp2
  go_ret
  exact ⟨rfl, rfl⟩

set_option maxHeartbeats 8000000 in
theorem refKids_any (k : Int) (w : World) : Calls Tryz.prog 61 #[.int .i64 k] w fun e w' => e = .returned (.int .i64 (kidsN k)) ∧ w' = w := by
  by_cases h : 1 ≤ k ∧ k ≤ 25
  · rcases kinds25 h.1 h.2 with rfl | rfl | rfl | rfl | rfl | rfl | rfl | rfl | rfl | rfl | rfl | rfl | rfl | rfl | rfl | rfl | rfl | rfl | rfl | rfl | rfl | rfl | rfl | rfl | rfl
    · exact refKids_1 w
    · exact refKids_2 w
    · exact refKids_3 w
    · exact refKids_4 w
    · exact refKids_5 w
    · exact refKids_6 w
    · exact refKids_7 w
    · exact refKids_8 w
    · exact refKids_9 w
    · exact refKids_10 w
    · exact refKids_11 w
    · exact refKids_12 w
    · exact refKids_13 w
    · exact refKids_14 w
    · exact refKids_15 w
    · exact refKids_16 w
    · exact refKids_17 w
    · exact refKids_18 w
    · exact refKids_19 w
    · exact refKids_20 w
    · exact refKids_21 w
    · exact refKids_22 w
    · exact refKids_23 w
    · exact refKids_24 w
    · exact refKids_25 w
  · have e : kidsN k = -1 := kidsN_out (by omega)
    rw [e]
    by_cases h1 : k < 1
    · go_enter Tryz.func61, Tryz.ntmps61
      go_wp2
      go_ret
      exact ⟨rfl, rfl⟩
    · have h2 : k > 25 := by omega
      clear h e
      go_enter Tryz.func61, Tryz.ntmps61
      go_wp2
      go_ret
      exact ⟨rfl, rfl⟩
end Go.Proofs.YtkljakeccfnakaaGreatDoor
