/-
  The walks of the program's patterns of an expression's text.
-/
import Derived.Test.YtkljakeccfnakaaGreatDoorTb
namespace Go.Proofs.YtkljakeccfnakaaGreatDoor
open Go.RowKit

theorem bapp (a b : List UInt8) : ((⟨a.toArray⟩ : ByteArray) ++ ⟨b.toArray⟩) = ⟨(a ++ b).toArray⟩ := by
  apply ByteArray.ext
  simp
theorem ret_str {a b : ByteArray} (h : a = b) : Ending.returned (.string a) = .returned (.string b) := by rw [h]
def armsT (t : List UInt8) (n : Int) : List UInt8 :=
  if n = 1 then [110, 111, 110, 101, 32, 45, 62, 32, 36] else if n = 2 then [115, 111, 109, 101, 32] ++ t ++ [32, 45, 62, 32, 36]
  else [110, 111, 110, 101, 32, 45, 62, 32, 36] ++ [32, 124, 32] ++ ([115, 111, 109, 101, 32] ++ t ++ [32, 45, 62, 32, 36])
theorem armsT_len (t : List UInt8) (n : Int) : (armsT t n).length ≤ t.length + 30 := by
  unfold armsT; split
  · simp
  · split <;> simp <;> omega
set_option maxHeartbeats 4000000 in
theorem arms_one (k : Int) (t o : List UInt8) (n p : Int) (a : Option Addr) (ln cp : Nat) (w : World) (ht : t.length ≤ 16) (h : n = 1) :
    Calls Tryz.prog 122 #[.agg #[.int .i64 k, .string ⟨t.toArray⟩, .string ⟨o.toArray⟩, .int .i64 n, .int .i64 p, .slice a ln cp]] w fun e w' => e = .returned (.string ⟨(armsT t n).toArray⟩) ∧ Below w.heap.size w w' := by
  have E : Hid (armsT t n = [110, 111, 110, 101, 32, 45, 62, 32, 36]) := by show _ = _; unfold armsT; rw [if_pos h]
  have q1 : (n == 1) = true := by rw [beq_iff_eq]; exact h
  clear h
  have r1 : ¬ 9223372036854775807 < 5 + t.length := by omega
  have r2 : ¬ 9223372036854775807 < 5 + t.length + 5 := by omega
  go_enter Tryz.func122, Tryz.ntmps122
  go_wp2_with fail
  go_region
  all_goals
    simp only [Exit.then]
    go_wp2_with fail
    go_ret
    exact ⟨ret_str (by rw [E.out]), (ba (Below.refl _ _)).drew⟩
set_option maxHeartbeats 4000000 in
theorem arms_two (k : Int) (t o : List UInt8) (n p : Int) (a : Option Addr) (ln cp : Nat) (w : World) (ht : t.length ≤ 16) (h : n = 2) :
    Calls Tryz.prog 122 #[.agg #[.int .i64 k, .string ⟨t.toArray⟩, .string ⟨o.toArray⟩, .int .i64 n, .int .i64 p, .slice a ln cp]] w fun e w' => e = .returned (.string ⟨(armsT t n).toArray⟩) ∧ Below w.heap.size w w' := by
  have E : Hid (armsT t n = [115, 111, 109, 101, 32] ++ t ++ [32, 45, 62, 32, 36]) := by show _ = _; unfold armsT; rw [if_neg (by omega), if_pos h]
  have q1 : (n == 1) = false := by rw [beq_eq_false_iff_ne]; omega
  have q2 : (n == 2) = true := by rw [beq_iff_eq]; exact h
  clear h
  have r1 : ¬ 9223372036854775807 < 5 + t.length := by omega
  have r2 : ¬ 9223372036854775807 < 5 + t.length + 5 := by omega
  go_enter Tryz.func122, Tryz.ntmps122
  go_wp2_with fail
  go_region
  all_goals
    simp only [Exit.then]
    go_wp2_with fail
    go_ret
    exact ⟨ret_str (by simp only [bapp, E.out]), (ba (Below.refl _ _)).drew⟩
set_option maxHeartbeats 4000000 in
theorem arms_both (k : Int) (t o : List UInt8) (n p : Int) (a : Option Addr) (ln cp : Nat) (w : World) (ht : t.length ≤ 16) (h1 : n ≠ 1) (h2 : n ≠ 2) :
    Calls Tryz.prog 122 #[.agg #[.int .i64 k, .string ⟨t.toArray⟩, .string ⟨o.toArray⟩, .int .i64 n, .int .i64 p, .slice a ln cp]] w fun e w' => e = .returned (.string ⟨(armsT t n).toArray⟩) ∧ Below w.heap.size w w' := by
  have E : Hid (armsT t n = [110, 111, 110, 101, 32, 45, 62, 32, 36] ++ [32, 124, 32] ++ ([115, 111, 109, 101, 32] ++ t ++ [32, 45, 62, 32, 36])) := by show _ = _; unfold armsT; rw [if_neg h1, if_neg h2]
  have q1 : (n == 1) = false := by rw [beq_eq_false_iff_ne]; omega
  have q2 : (n == 2) = false := by rw [beq_eq_false_iff_ne]; omega
  clear h1 h2
  have r1 : ¬ 9223372036854775807 < 5 + t.length := by omega
  have r2 : ¬ 9223372036854775807 < 5 + t.length + 5 := by omega
  go_enter Tryz.func122, Tryz.ntmps122
  go_wp2_with fail
  go_region
  all_goals
    simp only [Exit.then]
    go_wp2_with fail
    go_ret
    exact ⟨ret_str (by simp only [bapp, E.out]), (ba (Below.refl _ _)).drew⟩
theorem arms_any (k : Int) (t o : List UInt8) (n p : Int) (a : Option Addr) (ln cp : Nat) (w : World) (ht : t.length ≤ 16) :
    Calls Tryz.prog 122 #[.agg #[.int .i64 k, .string ⟨t.toArray⟩, .string ⟨o.toArray⟩, .int .i64 n, .int .i64 p, .slice a ln cp]] w fun e w' => e = .returned (.string ⟨(armsT t n).toArray⟩) ∧ Below w.heap.size w w' := by
  by_cases h1 : n = 1
  · exact arms_one k t o n p a ln cp w ht h1
  by_cases h2 : n = 2
  · exact arms_two k t o n p a ln cp w ht h2
  exact arms_both k t o n p a ln cp w ht h1 h2
def insT (k : Int) (t o : List UInt8) (n : Int) : List UInt8 :=
  if k = 5 then [108, 101, 116, 32] ++ t ++ [32, 61, 32, 36, 32, 105, 110, 32, 36] else
  if k = 6 then [105, 102, 32, 36, 32, 116, 104, 101, 110, 32, 36, 32, 101, 108, 115, 101, 32, 36] else
  if k = 7 then [102, 117, 110, 32] ++ t ++ [32, 45, 62, 32, 36] else
  if k = 8 then [36, 32, 36] else
  if k = 9 then [36, 59, 32, 36] else
  if k = 11 then t ++ [32, 58, 61, 32, 36] else
  if k = 13 then t ++ [46, 91, 36, 93, 32, 60, 45, 32, 36] else
  if k = 14 then [115, 119, 97, 112, 32] ++ t ++ [32, 36] else
  if k = 15 then [97, 100, 100, 32] ++ t ++ [32, 36] else
  if k = 16 then [99, 97, 115, 32] ++ t ++ [32, 36, 32, 36] else
  if k = 17 then [112, 114, 105, 110, 116, 32, 36] else
  if k = 19 then [115, 111, 109, 101, 32, 36] else
  if k = 20 then [36, 44, 32, 36] else
  if k = 21 then [36, 32] ++ t ++ [32, 36] else
  if k = 22 then [36, 32, 60, 32, 36] else
  if k = 23 then [36, 32, 61, 32, 36] else
  if k = 25 then [109, 97, 116, 99, 104, 32, 36, 32, 119, 105, 116, 104, 32, 40] ++ t ++ [44, 32] ++ o ++ [41, 32, 45, 62, 32, 36] else
  [109, 97, 116, 99, 104, 32, 36, 32, 119, 105, 116, 104, 32] ++ armsT t n
set_option maxHeartbeats 4000000 in
theorem inside_5 (t o : List UInt8) (n p : Int) (a : Option Addr) (ln cp : Nat) (w : World) (_ht : t.length ≤ 16) (_ho : o.length ≤ 16) :
    Calls Tryz.prog 93 #[.agg #[.int .i64 5, .string ⟨t.toArray⟩, .string ⟨o.toArray⟩, .int .i64 n, .int .i64 p, .slice a ln cp]] w fun e w' => e = .returned (.string ⟨(insT 5 t o n).toArray⟩) ∧ Below w.heap.size w w' := by
  go_enter Tryz.func93, Tryz.ntmps93
  go_wp2_with fail
  go_ret
  exact ⟨ret_str (by simp only [bapp]; rfl), ba (Below.refl _ _)⟩
set_option maxHeartbeats 4000000 in
theorem inside_6 (t o : List UInt8) (n p : Int) (a : Option Addr) (ln cp : Nat) (w : World) (_ht : t.length ≤ 16) (_ho : o.length ≤ 16) :
    Calls Tryz.prog 93 #[.agg #[.int .i64 6, .string ⟨t.toArray⟩, .string ⟨o.toArray⟩, .int .i64 n, .int .i64 p, .slice a ln cp]] w fun e w' => e = .returned (.string ⟨(insT 6 t o n).toArray⟩) ∧ Below w.heap.size w w' := by
  go_enter Tryz.func93, Tryz.ntmps93
  go_wp2_with fail
  go_ret
  exact ⟨rfl, ba (Below.refl _ _)⟩
set_option maxHeartbeats 4000000 in
theorem inside_7 (t o : List UInt8) (n p : Int) (a : Option Addr) (ln cp : Nat) (w : World) (_ht : t.length ≤ 16) (_ho : o.length ≤ 16) :
    Calls Tryz.prog 93 #[.agg #[.int .i64 7, .string ⟨t.toArray⟩, .string ⟨o.toArray⟩, .int .i64 n, .int .i64 p, .slice a ln cp]] w fun e w' => e = .returned (.string ⟨(insT 7 t o n).toArray⟩) ∧ Below w.heap.size w w' := by
  go_enter Tryz.func93, Tryz.ntmps93
  go_wp2_with fail
  go_ret
  exact ⟨ret_str (by simp only [bapp]; rfl), ba (Below.refl _ _)⟩
set_option maxHeartbeats 4000000 in
theorem inside_8 (t o : List UInt8) (n p : Int) (a : Option Addr) (ln cp : Nat) (w : World) (_ht : t.length ≤ 16) (_ho : o.length ≤ 16) :
    Calls Tryz.prog 93 #[.agg #[.int .i64 8, .string ⟨t.toArray⟩, .string ⟨o.toArray⟩, .int .i64 n, .int .i64 p, .slice a ln cp]] w fun e w' => e = .returned (.string ⟨(insT 8 t o n).toArray⟩) ∧ Below w.heap.size w w' := by
  go_enter Tryz.func93, Tryz.ntmps93
  go_wp2_with fail
  go_ret
  exact ⟨rfl, ba (Below.refl _ _)⟩
set_option maxHeartbeats 4000000 in
theorem inside_9 (t o : List UInt8) (n p : Int) (a : Option Addr) (ln cp : Nat) (w : World) (_ht : t.length ≤ 16) (_ho : o.length ≤ 16) :
    Calls Tryz.prog 93 #[.agg #[.int .i64 9, .string ⟨t.toArray⟩, .string ⟨o.toArray⟩, .int .i64 n, .int .i64 p, .slice a ln cp]] w fun e w' => e = .returned (.string ⟨(insT 9 t o n).toArray⟩) ∧ Below w.heap.size w w' := by
  go_enter Tryz.func93, Tryz.ntmps93
  go_wp2_with fail
  go_ret
  exact ⟨rfl, ba (Below.refl _ _)⟩
set_option maxHeartbeats 4000000 in
theorem inside_11 (t o : List UInt8) (n p : Int) (a : Option Addr) (ln cp : Nat) (w : World) (_ht : t.length ≤ 16) (_ho : o.length ≤ 16) :
    Calls Tryz.prog 93 #[.agg #[.int .i64 11, .string ⟨t.toArray⟩, .string ⟨o.toArray⟩, .int .i64 n, .int .i64 p, .slice a ln cp]] w fun e w' => e = .returned (.string ⟨(insT 11 t o n).toArray⟩) ∧ Below w.heap.size w w' := by
  go_enter Tryz.func93, Tryz.ntmps93
  go_wp2_with fail
  go_ret
  exact ⟨ret_str (by simp only [bapp]; rfl), ba (Below.refl _ _)⟩
set_option maxHeartbeats 4000000 in
theorem inside_13 (t o : List UInt8) (n p : Int) (a : Option Addr) (ln cp : Nat) (w : World) (_ht : t.length ≤ 16) (_ho : o.length ≤ 16) :
    Calls Tryz.prog 93 #[.agg #[.int .i64 13, .string ⟨t.toArray⟩, .string ⟨o.toArray⟩, .int .i64 n, .int .i64 p, .slice a ln cp]] w fun e w' => e = .returned (.string ⟨(insT 13 t o n).toArray⟩) ∧ Below w.heap.size w w' := by
  go_enter Tryz.func93, Tryz.ntmps93
  go_wp2_with fail
  go_ret
  exact ⟨ret_str (by simp only [bapp]; rfl), ba (Below.refl _ _)⟩
set_option maxHeartbeats 4000000 in
theorem inside_14 (t o : List UInt8) (n p : Int) (a : Option Addr) (ln cp : Nat) (w : World) (_ht : t.length ≤ 16) (_ho : o.length ≤ 16) :
    Calls Tryz.prog 93 #[.agg #[.int .i64 14, .string ⟨t.toArray⟩, .string ⟨o.toArray⟩, .int .i64 n, .int .i64 p, .slice a ln cp]] w fun e w' => e = .returned (.string ⟨(insT 14 t o n).toArray⟩) ∧ Below w.heap.size w w' := by
  go_enter Tryz.func93, Tryz.ntmps93
  go_wp2_with fail
  go_ret
  exact ⟨ret_str (by simp only [bapp]; rfl), ba (Below.refl _ _)⟩
set_option maxHeartbeats 4000000 in
theorem inside_15 (t o : List UInt8) (n p : Int) (a : Option Addr) (ln cp : Nat) (w : World) (_ht : t.length ≤ 16) (_ho : o.length ≤ 16) :
    Calls Tryz.prog 93 #[.agg #[.int .i64 15, .string ⟨t.toArray⟩, .string ⟨o.toArray⟩, .int .i64 n, .int .i64 p, .slice a ln cp]] w fun e w' => e = .returned (.string ⟨(insT 15 t o n).toArray⟩) ∧ Below w.heap.size w w' := by
  go_enter Tryz.func93, Tryz.ntmps93
  go_wp2_with fail
  go_ret
  exact ⟨ret_str (by simp only [bapp]; rfl), ba (Below.refl _ _)⟩
set_option maxHeartbeats 4000000 in
theorem inside_16 (t o : List UInt8) (n p : Int) (a : Option Addr) (ln cp : Nat) (w : World) (_ht : t.length ≤ 16) (_ho : o.length ≤ 16) :
    Calls Tryz.prog 93 #[.agg #[.int .i64 16, .string ⟨t.toArray⟩, .string ⟨o.toArray⟩, .int .i64 n, .int .i64 p, .slice a ln cp]] w fun e w' => e = .returned (.string ⟨(insT 16 t o n).toArray⟩) ∧ Below w.heap.size w w' := by
  go_enter Tryz.func93, Tryz.ntmps93
  go_wp2_with fail
  go_ret
  exact ⟨ret_str (by simp only [bapp]; rfl), ba (Below.refl _ _)⟩
set_option maxHeartbeats 4000000 in
theorem inside_17 (t o : List UInt8) (n p : Int) (a : Option Addr) (ln cp : Nat) (w : World) (_ht : t.length ≤ 16) (_ho : o.length ≤ 16) :
    Calls Tryz.prog 93 #[.agg #[.int .i64 17, .string ⟨t.toArray⟩, .string ⟨o.toArray⟩, .int .i64 n, .int .i64 p, .slice a ln cp]] w fun e w' => e = .returned (.string ⟨(insT 17 t o n).toArray⟩) ∧ Below w.heap.size w w' := by
  go_enter Tryz.func93, Tryz.ntmps93
  go_wp2_with fail
  go_ret
  exact ⟨rfl, ba (Below.refl _ _)⟩
set_option maxHeartbeats 4000000 in
theorem inside_19 (t o : List UInt8) (n p : Int) (a : Option Addr) (ln cp : Nat) (w : World) (_ht : t.length ≤ 16) (_ho : o.length ≤ 16) :
    Calls Tryz.prog 93 #[.agg #[.int .i64 19, .string ⟨t.toArray⟩, .string ⟨o.toArray⟩, .int .i64 n, .int .i64 p, .slice a ln cp]] w fun e w' => e = .returned (.string ⟨(insT 19 t o n).toArray⟩) ∧ Below w.heap.size w w' := by
  go_enter Tryz.func93, Tryz.ntmps93
  go_wp2_with fail
  go_ret
  exact ⟨rfl, ba (Below.refl _ _)⟩
set_option maxHeartbeats 4000000 in
theorem inside_20 (t o : List UInt8) (n p : Int) (a : Option Addr) (ln cp : Nat) (w : World) (_ht : t.length ≤ 16) (_ho : o.length ≤ 16) :
    Calls Tryz.prog 93 #[.agg #[.int .i64 20, .string ⟨t.toArray⟩, .string ⟨o.toArray⟩, .int .i64 n, .int .i64 p, .slice a ln cp]] w fun e w' => e = .returned (.string ⟨(insT 20 t o n).toArray⟩) ∧ Below w.heap.size w w' := by
  go_enter Tryz.func93, Tryz.ntmps93
  go_wp2_with fail
  go_ret
  exact ⟨rfl, ba (Below.refl _ _)⟩
set_option maxHeartbeats 4000000 in
theorem inside_21 (t o : List UInt8) (n p : Int) (a : Option Addr) (ln cp : Nat) (w : World) (_ht : t.length ≤ 16) (_ho : o.length ≤ 16) :
    Calls Tryz.prog 93 #[.agg #[.int .i64 21, .string ⟨t.toArray⟩, .string ⟨o.toArray⟩, .int .i64 n, .int .i64 p, .slice a ln cp]] w fun e w' => e = .returned (.string ⟨(insT 21 t o n).toArray⟩) ∧ Below w.heap.size w w' := by
  go_enter Tryz.func93, Tryz.ntmps93
  go_wp2_with fail
  go_ret
  exact ⟨ret_str (by simp only [bapp]; rfl), ba (Below.refl _ _)⟩
set_option maxHeartbeats 4000000 in
theorem inside_22 (t o : List UInt8) (n p : Int) (a : Option Addr) (ln cp : Nat) (w : World) (_ht : t.length ≤ 16) (_ho : o.length ≤ 16) :
    Calls Tryz.prog 93 #[.agg #[.int .i64 22, .string ⟨t.toArray⟩, .string ⟨o.toArray⟩, .int .i64 n, .int .i64 p, .slice a ln cp]] w fun e w' => e = .returned (.string ⟨(insT 22 t o n).toArray⟩) ∧ Below w.heap.size w w' := by
  go_enter Tryz.func93, Tryz.ntmps93
  go_wp2_with fail
  go_ret
  exact ⟨rfl, ba (Below.refl _ _)⟩
set_option maxHeartbeats 4000000 in
theorem inside_23 (t o : List UInt8) (n p : Int) (a : Option Addr) (ln cp : Nat) (w : World) (_ht : t.length ≤ 16) (_ho : o.length ≤ 16) :
    Calls Tryz.prog 93 #[.agg #[.int .i64 23, .string ⟨t.toArray⟩, .string ⟨o.toArray⟩, .int .i64 n, .int .i64 p, .slice a ln cp]] w fun e w' => e = .returned (.string ⟨(insT 23 t o n).toArray⟩) ∧ Below w.heap.size w w' := by
  go_enter Tryz.func93, Tryz.ntmps93
  go_wp2_with fail
  go_ret
  exact ⟨rfl, ba (Below.refl _ _)⟩
set_option maxHeartbeats 4000000 in
theorem inside_24 (t o : List UInt8) (n p : Int) (a : Option Addr) (ln cp : Nat) (w : World) (_ht : t.length ≤ 16) (_ho : o.length ≤ 16) :
    Calls Tryz.prog 93 #[.agg #[.int .i64 24, .string ⟨t.toArray⟩, .string ⟨o.toArray⟩, .int .i64 n, .int .i64 p, .slice a ln cp]] w fun e w' => e = .returned (.string ⟨(insT 24 t o n).toArray⟩) ∧ Below w.heap.size w w' := by
  have HA : Hid (∀ W, Calls Tryz.prog 122 #[.agg #[.int .i64 24, .string ⟨t.toArray⟩, .string ⟨o.toArray⟩, .int .i64 n, .int .i64 p, .slice a ln cp]] W fun e w2 => e = .returned (.string ⟨(armsT t n).toArray⟩) ∧ Below W.heap.size W w2) := fun W => arms_any _ _ _ _ _ _ _ _ W _ht
  have hl := armsT_len t n
  have E : Hid (insT 24 t o n = [109, 97, 116, 99, 104, 32, 36, 32, 119, 105, 116, 104, 32] ++ armsT t n) := rfl
  rw [E.out]
  generalize armsT t n = z at *
  go_enter Tryz.func93, Tryz.ntmps93
  go_wp2_with (go_at_call 122; refine (HA.out _).mono ?_; rintro e w2 ⟨rfl, hb2⟩)
  go_ret
  exact ⟨ret_str (by simp only [bapp]; rfl), bl2 (ba (Below.refl _ _)) hb2⟩
set_option maxHeartbeats 4000000 in
theorem inside_25 (t o : List UInt8) (n p : Int) (a : Option Addr) (ln cp : Nat) (w : World) (_ht : t.length ≤ 16) (_ho : o.length ≤ 16) :
    Calls Tryz.prog 93 #[.agg #[.int .i64 25, .string ⟨t.toArray⟩, .string ⟨o.toArray⟩, .int .i64 n, .int .i64 p, .slice a ln cp]] w fun e w' => e = .returned (.string ⟨(insT 25 t o n).toArray⟩) ∧ Below w.heap.size w w' := by
  go_enter Tryz.func93, Tryz.ntmps93
  go_wp2_with fail
  go_ret
  exact ⟨ret_str (by simp only [bapp]; rfl), ba (Below.refl _ _)⟩
theorem insT_len {k : Int} (t o : List UInt8) (n : Int) (h1 : 5 ≤ k) (h2 : k ≤ 25) (h3 : k ≠ 10) (h4 : k ≠ 12) (h5 : k ≠ 18) : (insT k t o n).length ≤ t.length + o.length + 60 := by
  have h24 := armsT_len t n
  rcases kinds25 (k := k) (by omega) h2 with rfl | rfl | rfl | rfl | rfl | rfl | rfl | rfl | rfl | rfl | rfl | rfl | rfl | rfl | rfl | rfl | rfl | rfl | rfl | rfl | rfl | rfl | rfl | rfl | rfl
  · omega
  · omega
  · omega
  · omega
  · simp [insT] <;> omega
  · simp [insT]
  · simp [insT] <;> omega
  · simp [insT]
  · simp [insT]
  · omega
  · simp [insT] <;> omega
  · omega
  · simp [insT] <;> omega
  · simp [insT] <;> omega
  · simp [insT] <;> omega
  · simp [insT] <;> omega
  · simp [insT]
  · omega
  · simp [insT]
  · simp [insT]
  · simp [insT] <;> omega
  · simp [insT]
  · simp [insT]
  · simp [insT] <;> omega
  · simp [insT] <;> omega
/-- The pattern of a formed node. -/
structure PatOk (k : Int) (t o : List UInt8) (n : Int) : Prop where
  text : t.length ≤ 16
  other : o.length ≤ 16
  lo : 1 ≤ k
  hi : k ≤ 25
  num : k = 1 → 0 ≤ n ∧ n ≤ 999999999
theorem pat_ins {k : Int} {t o : List UInt8} {n : Int} (h1 : 5 ≤ k) (h2 : k ≤ 25) (h3 : k ≠ 10) (h4 : k ≠ 12) (h5 : k ≠ 18) : [40] ++ insT k t o n ++ [41] = joined 36 (pcs k t o n) := by
  rcases kinds25 (k := k) (by omega) h2 with rfl | rfl | rfl | rfl | rfl | rfl | rfl | rfl | rfl | rfl | rfl | rfl | rfl | rfl | rfl | rfl | rfl | rfl | rfl | rfl | rfl | rfl | rfl | rfl | rfl
  · omega
  · omega
  · omega
  · omega
  · simp [insT, pcs, joined]
  · simp [insT, pcs, joined]
  · simp [insT, pcs, joined]
  · simp [insT, pcs, joined]
  · simp [insT, pcs, joined]
  · omega
  · simp [insT, pcs, joined]
  · omega
  · simp [insT, pcs, joined]
  · simp [insT, pcs, joined]
  · simp [insT, pcs, joined]
  · simp [insT, pcs, joined]
  · simp [insT, pcs, joined]
  · omega
  · simp [insT, pcs, joined]
  · simp [insT, pcs, joined]
  · simp [insT, pcs, joined]
  · simp [insT, pcs, joined]
  · simp [insT, pcs, joined]
  · by_cases n1 : n = 1
    · subst n1; rfl
    by_cases n2 : n = 2
    · subst n2; simp [insT, armsT, pcs, joined]
    simp [insT, armsT, pcs, joined, n1, n2]
  · simp [insT, pcs, joined]
set_option maxHeartbeats 4000000 in
theorem pattern_3 (k : Int) (t o : List UInt8) (n p : Int) (a : Option Addr) (ln cp B : Nat) (w : World) (_h : PatOk k t o n) (_hw : Ok B w) (_hB : B ≤ w.heap.size) (hk : k = 3) :
    Calls Tryz.prog 57 #[.agg #[.int .i64 k, .string ⟨t.toArray⟩, .string ⟨o.toArray⟩, .int .i64 n, .int .i64 p, .slice a ln cp]] w fun e w' => e = .returned (.string ⟨(joined 36 (pcs k t o n)).toArray⟩) ∧ Below w.heap.size w w' := by
  subst hk
  clear _h _hw _hB
  go_enter Tryz.func57, Tryz.ntmps57
  go_wp2_with fail
  go_ret
  exact ⟨rfl, ba (Below.refl _ _)⟩
set_option maxHeartbeats 4000000 in
theorem pattern_18 (k : Int) (t o : List UInt8) (n p : Int) (a : Option Addr) (ln cp B : Nat) (w : World) (_h : PatOk k t o n) (_hw : Ok B w) (_hB : B ≤ w.heap.size) (hk : k = 18) :
    Calls Tryz.prog 57 #[.agg #[.int .i64 k, .string ⟨t.toArray⟩, .string ⟨o.toArray⟩, .int .i64 n, .int .i64 p, .slice a ln cp]] w fun e w' => e = .returned (.string ⟨(joined 36 (pcs k t o n)).toArray⟩) ∧ Below w.heap.size w w' := by
  subst hk
  clear _h _hw _hB
  go_enter Tryz.func57, Tryz.ntmps57
  go_wp2_with fail
  go_ret
  exact ⟨rfl, ba (Below.refl _ _)⟩
set_option maxHeartbeats 4000000 in
theorem pattern_4 (k : Int) (t o : List UInt8) (n p : Int) (a : Option Addr) (ln cp B : Nat) (w : World) (_h : PatOk k t o n) (_hw : Ok B w) (_hB : B ≤ w.heap.size) (hk : k = 4) :
    Calls Tryz.prog 57 #[.agg #[.int .i64 k, .string ⟨t.toArray⟩, .string ⟨o.toArray⟩, .int .i64 n, .int .i64 p, .slice a ln cp]] w fun e w' => e = .returned (.string ⟨(joined 36 (pcs k t o n)).toArray⟩) ∧ Below w.heap.size w w' := by
  subst hk
  clear _h _hw _hB
  go_enter Tryz.func57, Tryz.ntmps57
  go_wp2_with fail
  go_ret
  exact ⟨rfl, ba (Below.refl _ _)⟩
set_option maxHeartbeats 4000000 in
theorem pattern_10 (k : Int) (t o : List UInt8) (n p : Int) (a : Option Addr) (ln cp B : Nat) (w : World) (_h : PatOk k t o n) (_hw : Ok B w) (_hB : B ≤ w.heap.size) (hk : k = 10) :
    Calls Tryz.prog 57 #[.agg #[.int .i64 k, .string ⟨t.toArray⟩, .string ⟨o.toArray⟩, .int .i64 n, .int .i64 p, .slice a ln cp]] w fun e w' => e = .returned (.string ⟨(joined 36 (pcs k t o n)).toArray⟩) ∧ Below w.heap.size w w' := by
  subst hk
  have _ht := _h.text
  clear _h _hw _hB
  go_enter Tryz.func57, Tryz.ntmps57
  go_wp2_with fail
  go_ret
  exact ⟨ret_str (by simp only [bapp]; first | rfl | simp [pcs, joined]), ba (Below.refl _ _)⟩
set_option maxHeartbeats 4000000 in
theorem pattern_12 (k : Int) (t o : List UInt8) (n p : Int) (a : Option Addr) (ln cp B : Nat) (w : World) (_h : PatOk k t o n) (_hw : Ok B w) (_hB : B ≤ w.heap.size) (hk : k = 12) :
    Calls Tryz.prog 57 #[.agg #[.int .i64 k, .string ⟨t.toArray⟩, .string ⟨o.toArray⟩, .int .i64 n, .int .i64 p, .slice a ln cp]] w fun e w' => e = .returned (.string ⟨(joined 36 (pcs k t o n)).toArray⟩) ∧ Below w.heap.size w w' := by
  subst hk
  have _ht := _h.text
  clear _h _hw _hB
  go_enter Tryz.func57, Tryz.ntmps57
  go_wp2_with fail
  go_ret
  exact ⟨ret_str (by simp only [bapp]; first | rfl | simp [pcs, joined]), ba (Below.refl _ _)⟩
set_option maxHeartbeats 4000000 in
theorem pattern_1 (k : Int) (t o : List UInt8) (n p : Int) (a : Option Addr) (ln cp B : Nat) (w : World) (_h : PatOk k t o n) (_hw : Ok B w) (_hB : B ≤ w.heap.size) (hk : k = 1) :
    Calls Tryz.prog 57 #[.agg #[.int .i64 k, .string ⟨t.toArray⟩, .string ⟨o.toArray⟩, .int .i64 n, .int .i64 p, .slice a ln cp]] w fun e w' => e = .returned (.string ⟨(joined 36 (pcs k t o n)).toArray⟩) ∧ Below w.heap.size w w' := by
  subst hk
  have hn := _h.num rfl
  have HI : Hid (∀ W, Below w.heap.size w W → Calls Tryz.prog 54 #[.int .i64 n] W fun e w' => e = .returned (.string ⟨(Lib.itoa n).toArray⟩) ∧ Below W.heap.size W w') := fun W hW => itoa_any n (by omega) (by omega) B W (_hw.keep (hW.mono _hB))
  clear _h _hw _hB hn
  go_enter Tryz.func57, Tryz.ntmps57
  go_wp2_with (go_at_call 54; refine (HI.out _ (ba (Below.refl _ _))).mono ?_; rintro e w2 ⟨rfl, hb2⟩)
  go_ret
  exact ⟨rfl, bl2 (ba (Below.refl _ _)) hb2⟩
set_option maxHeartbeats 4000000 in
theorem pattern_2 (k : Int) (t o : List UInt8) (n p : Int) (a : Option Addr) (ln cp : Nat) (w : World) (hk : k = 2) :
    Calls Tryz.prog 57 #[.agg #[.int .i64 k, .string ⟨t.toArray⟩, .string ⟨o.toArray⟩, .int .i64 n, .int .i64 p, .slice a ln cp]] w fun e w' => e = .returned (.string ⟨(joined 36 (pcs k t o n)).toArray⟩) ∧ Below w.heap.size w w' := by
  subst hk
  by_cases h : n = 1
  · subst h
    go_enter Tryz.func57, Tryz.ntmps57
    go_wp2_with (go_at_call 92; refine (fbool_any _ _).mono ?_; rintro e w2 ⟨rfl, rfl⟩)
    go_ret
    exact ⟨rfl, ba (Below.refl _ _)⟩
  · have q : (n == 1) = false := by rw [beq_eq_false_iff_ne]; exact h
    have E : Hid (joined 36 (pcs 2 t o n) = [102, 97, 108, 115, 101]) := by show _ = _; simp [pcs, joined, h]
    clear h
    go_enter Tryz.func57, Tryz.ntmps57
    go_wp2_with (go_at_call 92; refine (fbool_any _ _).mono ?_; rintro e w2 ⟨rfl, rfl⟩)
    go_ret
    exact ⟨ret_str (by rw [E.out]), ba (Below.refl _ _)⟩
set_option maxHeartbeats 4000000 in
theorem pattern_5 (t o : List UInt8) (n p : Int) (a : Option Addr) (ln cp : Nat) (w : World) (ht : t.length ≤ 16) (ho : o.length ≤ 16) :
    Calls Tryz.prog 57 #[.agg #[.int .i64 5, .string ⟨t.toArray⟩, .string ⟨o.toArray⟩, .int .i64 n, .int .i64 p, .slice a ln cp]] w fun e w' => e = .returned (.string ⟨(joined 36 (pcs 5 t o n)).toArray⟩) ∧ Below w.heap.size w w' := by
  have HI : Hid (∀ W, Calls Tryz.prog 93 #[.agg #[.int .i64 5, .string ⟨t.toArray⟩, .string ⟨o.toArray⟩, .int .i64 n, .int .i64 p, .slice a ln cp]] W fun e w' => e = .returned (.string ⟨(insT 5 t o n).toArray⟩) ∧ Below W.heap.size W w') := fun W => inside_5 t o n p a ln cp W ht ho
  have hl := insT_len (k := 5) t o n (by omega) (by omega) (by omega) (by omega) (by omega)
  rw [← pat_ins (by omega) (by omega) (by omega) (by omega) (by omega)]
  generalize insT 5 t o n = z at *
  go_enter Tryz.func57, Tryz.ntmps57
  go_wp2_with (go_at_call 93; refine (HI.out _).mono ?_; rintro e w2 ⟨rfl, hb2⟩)
  go_ret
  exact ⟨ret_str (by simp only [bapp]; rfl), bl2 (ba (Below.refl _ _)) hb2⟩
set_option maxHeartbeats 4000000 in
theorem pattern_6 (t o : List UInt8) (n p : Int) (a : Option Addr) (ln cp : Nat) (w : World) (ht : t.length ≤ 16) (ho : o.length ≤ 16) :
    Calls Tryz.prog 57 #[.agg #[.int .i64 6, .string ⟨t.toArray⟩, .string ⟨o.toArray⟩, .int .i64 n, .int .i64 p, .slice a ln cp]] w fun e w' => e = .returned (.string ⟨(joined 36 (pcs 6 t o n)).toArray⟩) ∧ Below w.heap.size w w' := by
  have HI : Hid (∀ W, Calls Tryz.prog 93 #[.agg #[.int .i64 6, .string ⟨t.toArray⟩, .string ⟨o.toArray⟩, .int .i64 n, .int .i64 p, .slice a ln cp]] W fun e w' => e = .returned (.string ⟨(insT 6 t o n).toArray⟩) ∧ Below W.heap.size W w') := fun W => inside_6 t o n p a ln cp W ht ho
  have hl := insT_len (k := 6) t o n (by omega) (by omega) (by omega) (by omega) (by omega)
  rw [← pat_ins (by omega) (by omega) (by omega) (by omega) (by omega)]
  generalize insT 6 t o n = z at *
  go_enter Tryz.func57, Tryz.ntmps57
  go_wp2_with (go_at_call 93; refine (HI.out _).mono ?_; rintro e w2 ⟨rfl, hb2⟩)
  go_ret
  exact ⟨ret_str (by simp only [bapp]; rfl), bl2 (ba (Below.refl _ _)) hb2⟩
set_option maxHeartbeats 4000000 in
theorem pattern_7 (t o : List UInt8) (n p : Int) (a : Option Addr) (ln cp : Nat) (w : World) (ht : t.length ≤ 16) (ho : o.length ≤ 16) :
    Calls Tryz.prog 57 #[.agg #[.int .i64 7, .string ⟨t.toArray⟩, .string ⟨o.toArray⟩, .int .i64 n, .int .i64 p, .slice a ln cp]] w fun e w' => e = .returned (.string ⟨(joined 36 (pcs 7 t o n)).toArray⟩) ∧ Below w.heap.size w w' := by
  have HI : Hid (∀ W, Calls Tryz.prog 93 #[.agg #[.int .i64 7, .string ⟨t.toArray⟩, .string ⟨o.toArray⟩, .int .i64 n, .int .i64 p, .slice a ln cp]] W fun e w' => e = .returned (.string ⟨(insT 7 t o n).toArray⟩) ∧ Below W.heap.size W w') := fun W => inside_7 t o n p a ln cp W ht ho
  have hl := insT_len (k := 7) t o n (by omega) (by omega) (by omega) (by omega) (by omega)
  rw [← pat_ins (by omega) (by omega) (by omega) (by omega) (by omega)]
  generalize insT 7 t o n = z at *
  go_enter Tryz.func57, Tryz.ntmps57
  go_wp2_with (go_at_call 93; refine (HI.out _).mono ?_; rintro e w2 ⟨rfl, hb2⟩)
  go_ret
  exact ⟨ret_str (by simp only [bapp]; rfl), bl2 (ba (Below.refl _ _)) hb2⟩
set_option maxHeartbeats 4000000 in
theorem pattern_8 (t o : List UInt8) (n p : Int) (a : Option Addr) (ln cp : Nat) (w : World) (ht : t.length ≤ 16) (ho : o.length ≤ 16) :
    Calls Tryz.prog 57 #[.agg #[.int .i64 8, .string ⟨t.toArray⟩, .string ⟨o.toArray⟩, .int .i64 n, .int .i64 p, .slice a ln cp]] w fun e w' => e = .returned (.string ⟨(joined 36 (pcs 8 t o n)).toArray⟩) ∧ Below w.heap.size w w' := by
  have HI : Hid (∀ W, Calls Tryz.prog 93 #[.agg #[.int .i64 8, .string ⟨t.toArray⟩, .string ⟨o.toArray⟩, .int .i64 n, .int .i64 p, .slice a ln cp]] W fun e w' => e = .returned (.string ⟨(insT 8 t o n).toArray⟩) ∧ Below W.heap.size W w') := fun W => inside_8 t o n p a ln cp W ht ho
  have hl := insT_len (k := 8) t o n (by omega) (by omega) (by omega) (by omega) (by omega)
  rw [← pat_ins (by omega) (by omega) (by omega) (by omega) (by omega)]
  generalize insT 8 t o n = z at *
  go_enter Tryz.func57, Tryz.ntmps57
  go_wp2_with (go_at_call 93; refine (HI.out _).mono ?_; rintro e w2 ⟨rfl, hb2⟩)
  go_ret
  exact ⟨ret_str (by simp only [bapp]; rfl), bl2 (ba (Below.refl _ _)) hb2⟩
set_option maxHeartbeats 4000000 in
theorem pattern_9 (t o : List UInt8) (n p : Int) (a : Option Addr) (ln cp : Nat) (w : World) (ht : t.length ≤ 16) (ho : o.length ≤ 16) :
    Calls Tryz.prog 57 #[.agg #[.int .i64 9, .string ⟨t.toArray⟩, .string ⟨o.toArray⟩, .int .i64 n, .int .i64 p, .slice a ln cp]] w fun e w' => e = .returned (.string ⟨(joined 36 (pcs 9 t o n)).toArray⟩) ∧ Below w.heap.size w w' := by
  have HI : Hid (∀ W, Calls Tryz.prog 93 #[.agg #[.int .i64 9, .string ⟨t.toArray⟩, .string ⟨o.toArray⟩, .int .i64 n, .int .i64 p, .slice a ln cp]] W fun e w' => e = .returned (.string ⟨(insT 9 t o n).toArray⟩) ∧ Below W.heap.size W w') := fun W => inside_9 t o n p a ln cp W ht ho
  have hl := insT_len (k := 9) t o n (by omega) (by omega) (by omega) (by omega) (by omega)
  rw [← pat_ins (by omega) (by omega) (by omega) (by omega) (by omega)]
  generalize insT 9 t o n = z at *
  go_enter Tryz.func57, Tryz.ntmps57
  go_wp2_with (go_at_call 93; refine (HI.out _).mono ?_; rintro e w2 ⟨rfl, hb2⟩)
  go_ret
  exact ⟨ret_str (by simp only [bapp]; rfl), bl2 (ba (Below.refl _ _)) hb2⟩
set_option maxHeartbeats 4000000 in
theorem pattern_11 (t o : List UInt8) (n p : Int) (a : Option Addr) (ln cp : Nat) (w : World) (ht : t.length ≤ 16) (ho : o.length ≤ 16) :
    Calls Tryz.prog 57 #[.agg #[.int .i64 11, .string ⟨t.toArray⟩, .string ⟨o.toArray⟩, .int .i64 n, .int .i64 p, .slice a ln cp]] w fun e w' => e = .returned (.string ⟨(joined 36 (pcs 11 t o n)).toArray⟩) ∧ Below w.heap.size w w' := by
  have HI : Hid (∀ W, Calls Tryz.prog 93 #[.agg #[.int .i64 11, .string ⟨t.toArray⟩, .string ⟨o.toArray⟩, .int .i64 n, .int .i64 p, .slice a ln cp]] W fun e w' => e = .returned (.string ⟨(insT 11 t o n).toArray⟩) ∧ Below W.heap.size W w') := fun W => inside_11 t o n p a ln cp W ht ho
  have hl := insT_len (k := 11) t o n (by omega) (by omega) (by omega) (by omega) (by omega)
  rw [← pat_ins (by omega) (by omega) (by omega) (by omega) (by omega)]
  generalize insT 11 t o n = z at *
  go_enter Tryz.func57, Tryz.ntmps57
  go_wp2_with (go_at_call 93; refine (HI.out _).mono ?_; rintro e w2 ⟨rfl, hb2⟩)
  go_ret
  exact ⟨ret_str (by simp only [bapp]; rfl), bl2 (ba (Below.refl _ _)) hb2⟩
set_option maxHeartbeats 4000000 in
theorem pattern_13 (t o : List UInt8) (n p : Int) (a : Option Addr) (ln cp : Nat) (w : World) (ht : t.length ≤ 16) (ho : o.length ≤ 16) :
    Calls Tryz.prog 57 #[.agg #[.int .i64 13, .string ⟨t.toArray⟩, .string ⟨o.toArray⟩, .int .i64 n, .int .i64 p, .slice a ln cp]] w fun e w' => e = .returned (.string ⟨(joined 36 (pcs 13 t o n)).toArray⟩) ∧ Below w.heap.size w w' := by
  have HI : Hid (∀ W, Calls Tryz.prog 93 #[.agg #[.int .i64 13, .string ⟨t.toArray⟩, .string ⟨o.toArray⟩, .int .i64 n, .int .i64 p, .slice a ln cp]] W fun e w' => e = .returned (.string ⟨(insT 13 t o n).toArray⟩) ∧ Below W.heap.size W w') := fun W => inside_13 t o n p a ln cp W ht ho
  have hl := insT_len (k := 13) t o n (by omega) (by omega) (by omega) (by omega) (by omega)
  rw [← pat_ins (by omega) (by omega) (by omega) (by omega) (by omega)]
  generalize insT 13 t o n = z at *
  go_enter Tryz.func57, Tryz.ntmps57
  go_wp2_with (go_at_call 93; refine (HI.out _).mono ?_; rintro e w2 ⟨rfl, hb2⟩)
  go_ret
  exact ⟨ret_str (by simp only [bapp]; rfl), bl2 (ba (Below.refl _ _)) hb2⟩
set_option maxHeartbeats 4000000 in
theorem pattern_14 (t o : List UInt8) (n p : Int) (a : Option Addr) (ln cp : Nat) (w : World) (ht : t.length ≤ 16) (ho : o.length ≤ 16) :
    Calls Tryz.prog 57 #[.agg #[.int .i64 14, .string ⟨t.toArray⟩, .string ⟨o.toArray⟩, .int .i64 n, .int .i64 p, .slice a ln cp]] w fun e w' => e = .returned (.string ⟨(joined 36 (pcs 14 t o n)).toArray⟩) ∧ Below w.heap.size w w' := by
  have HI : Hid (∀ W, Calls Tryz.prog 93 #[.agg #[.int .i64 14, .string ⟨t.toArray⟩, .string ⟨o.toArray⟩, .int .i64 n, .int .i64 p, .slice a ln cp]] W fun e w' => e = .returned (.string ⟨(insT 14 t o n).toArray⟩) ∧ Below W.heap.size W w') := fun W => inside_14 t o n p a ln cp W ht ho
  have hl := insT_len (k := 14) t o n (by omega) (by omega) (by omega) (by omega) (by omega)
  rw [← pat_ins (by omega) (by omega) (by omega) (by omega) (by omega)]
  generalize insT 14 t o n = z at *
  go_enter Tryz.func57, Tryz.ntmps57
  go_wp2_with (go_at_call 93; refine (HI.out _).mono ?_; rintro e w2 ⟨rfl, hb2⟩)
  go_ret
  exact ⟨ret_str (by simp only [bapp]; rfl), bl2 (ba (Below.refl _ _)) hb2⟩
set_option maxHeartbeats 4000000 in
theorem pattern_15 (t o : List UInt8) (n p : Int) (a : Option Addr) (ln cp : Nat) (w : World) (ht : t.length ≤ 16) (ho : o.length ≤ 16) :
    Calls Tryz.prog 57 #[.agg #[.int .i64 15, .string ⟨t.toArray⟩, .string ⟨o.toArray⟩, .int .i64 n, .int .i64 p, .slice a ln cp]] w fun e w' => e = .returned (.string ⟨(joined 36 (pcs 15 t o n)).toArray⟩) ∧ Below w.heap.size w w' := by
  have HI : Hid (∀ W, Calls Tryz.prog 93 #[.agg #[.int .i64 15, .string ⟨t.toArray⟩, .string ⟨o.toArray⟩, .int .i64 n, .int .i64 p, .slice a ln cp]] W fun e w' => e = .returned (.string ⟨(insT 15 t o n).toArray⟩) ∧ Below W.heap.size W w') := fun W => inside_15 t o n p a ln cp W ht ho
  have hl := insT_len (k := 15) t o n (by omega) (by omega) (by omega) (by omega) (by omega)
  rw [← pat_ins (by omega) (by omega) (by omega) (by omega) (by omega)]
  generalize insT 15 t o n = z at *
  go_enter Tryz.func57, Tryz.ntmps57
  go_wp2_with (go_at_call 93; refine (HI.out _).mono ?_; rintro e w2 ⟨rfl, hb2⟩)
  go_ret
  exact ⟨ret_str (by simp only [bapp]; rfl), bl2 (ba (Below.refl _ _)) hb2⟩
set_option maxHeartbeats 4000000 in
theorem pattern_16 (t o : List UInt8) (n p : Int) (a : Option Addr) (ln cp : Nat) (w : World) (ht : t.length ≤ 16) (ho : o.length ≤ 16) :
    Calls Tryz.prog 57 #[.agg #[.int .i64 16, .string ⟨t.toArray⟩, .string ⟨o.toArray⟩, .int .i64 n, .int .i64 p, .slice a ln cp]] w fun e w' => e = .returned (.string ⟨(joined 36 (pcs 16 t o n)).toArray⟩) ∧ Below w.heap.size w w' := by
  have HI : Hid (∀ W, Calls Tryz.prog 93 #[.agg #[.int .i64 16, .string ⟨t.toArray⟩, .string ⟨o.toArray⟩, .int .i64 n, .int .i64 p, .slice a ln cp]] W fun e w' => e = .returned (.string ⟨(insT 16 t o n).toArray⟩) ∧ Below W.heap.size W w') := fun W => inside_16 t o n p a ln cp W ht ho
  have hl := insT_len (k := 16) t o n (by omega) (by omega) (by omega) (by omega) (by omega)
  rw [← pat_ins (by omega) (by omega) (by omega) (by omega) (by omega)]
  generalize insT 16 t o n = z at *
  go_enter Tryz.func57, Tryz.ntmps57
  go_wp2_with (go_at_call 93; refine (HI.out _).mono ?_; rintro e w2 ⟨rfl, hb2⟩)
  go_ret
  exact ⟨ret_str (by simp only [bapp]; rfl), bl2 (ba (Below.refl _ _)) hb2⟩
set_option maxHeartbeats 4000000 in
theorem pattern_17 (t o : List UInt8) (n p : Int) (a : Option Addr) (ln cp : Nat) (w : World) (ht : t.length ≤ 16) (ho : o.length ≤ 16) :
    Calls Tryz.prog 57 #[.agg #[.int .i64 17, .string ⟨t.toArray⟩, .string ⟨o.toArray⟩, .int .i64 n, .int .i64 p, .slice a ln cp]] w fun e w' => e = .returned (.string ⟨(joined 36 (pcs 17 t o n)).toArray⟩) ∧ Below w.heap.size w w' := by
  have HI : Hid (∀ W, Calls Tryz.prog 93 #[.agg #[.int .i64 17, .string ⟨t.toArray⟩, .string ⟨o.toArray⟩, .int .i64 n, .int .i64 p, .slice a ln cp]] W fun e w' => e = .returned (.string ⟨(insT 17 t o n).toArray⟩) ∧ Below W.heap.size W w') := fun W => inside_17 t o n p a ln cp W ht ho
  have hl := insT_len (k := 17) t o n (by omega) (by omega) (by omega) (by omega) (by omega)
  rw [← pat_ins (by omega) (by omega) (by omega) (by omega) (by omega)]
  generalize insT 17 t o n = z at *
  go_enter Tryz.func57, Tryz.ntmps57
  go_wp2_with (go_at_call 93; refine (HI.out _).mono ?_; rintro e w2 ⟨rfl, hb2⟩)
  go_ret
  exact ⟨ret_str (by simp only [bapp]; rfl), bl2 (ba (Below.refl _ _)) hb2⟩
set_option maxHeartbeats 4000000 in
theorem pattern_19 (t o : List UInt8) (n p : Int) (a : Option Addr) (ln cp : Nat) (w : World) (ht : t.length ≤ 16) (ho : o.length ≤ 16) :
    Calls Tryz.prog 57 #[.agg #[.int .i64 19, .string ⟨t.toArray⟩, .string ⟨o.toArray⟩, .int .i64 n, .int .i64 p, .slice a ln cp]] w fun e w' => e = .returned (.string ⟨(joined 36 (pcs 19 t o n)).toArray⟩) ∧ Below w.heap.size w w' := by
  have HI : Hid (∀ W, Calls Tryz.prog 93 #[.agg #[.int .i64 19, .string ⟨t.toArray⟩, .string ⟨o.toArray⟩, .int .i64 n, .int .i64 p, .slice a ln cp]] W fun e w' => e = .returned (.string ⟨(insT 19 t o n).toArray⟩) ∧ Below W.heap.size W w') := fun W => inside_19 t o n p a ln cp W ht ho
  have hl := insT_len (k := 19) t o n (by omega) (by omega) (by omega) (by omega) (by omega)
  rw [← pat_ins (by omega) (by omega) (by omega) (by omega) (by omega)]
  generalize insT 19 t o n = z at *
  go_enter Tryz.func57, Tryz.ntmps57
  go_wp2_with (go_at_call 93; refine (HI.out _).mono ?_; rintro e w2 ⟨rfl, hb2⟩)
  go_ret
  exact ⟨ret_str (by simp only [bapp]; rfl), bl2 (ba (Below.refl _ _)) hb2⟩
set_option maxHeartbeats 4000000 in
theorem pattern_20 (t o : List UInt8) (n p : Int) (a : Option Addr) (ln cp : Nat) (w : World) (ht : t.length ≤ 16) (ho : o.length ≤ 16) :
    Calls Tryz.prog 57 #[.agg #[.int .i64 20, .string ⟨t.toArray⟩, .string ⟨o.toArray⟩, .int .i64 n, .int .i64 p, .slice a ln cp]] w fun e w' => e = .returned (.string ⟨(joined 36 (pcs 20 t o n)).toArray⟩) ∧ Below w.heap.size w w' := by
  have HI : Hid (∀ W, Calls Tryz.prog 93 #[.agg #[.int .i64 20, .string ⟨t.toArray⟩, .string ⟨o.toArray⟩, .int .i64 n, .int .i64 p, .slice a ln cp]] W fun e w' => e = .returned (.string ⟨(insT 20 t o n).toArray⟩) ∧ Below W.heap.size W w') := fun W => inside_20 t o n p a ln cp W ht ho
  have hl := insT_len (k := 20) t o n (by omega) (by omega) (by omega) (by omega) (by omega)
  rw [← pat_ins (by omega) (by omega) (by omega) (by omega) (by omega)]
  generalize insT 20 t o n = z at *
  go_enter Tryz.func57, Tryz.ntmps57
  go_wp2_with (go_at_call 93; refine (HI.out _).mono ?_; rintro e w2 ⟨rfl, hb2⟩)
  go_ret
  exact ⟨ret_str (by simp only [bapp]; rfl), bl2 (ba (Below.refl _ _)) hb2⟩
set_option maxHeartbeats 4000000 in
theorem pattern_21 (t o : List UInt8) (n p : Int) (a : Option Addr) (ln cp : Nat) (w : World) (ht : t.length ≤ 16) (ho : o.length ≤ 16) :
    Calls Tryz.prog 57 #[.agg #[.int .i64 21, .string ⟨t.toArray⟩, .string ⟨o.toArray⟩, .int .i64 n, .int .i64 p, .slice a ln cp]] w fun e w' => e = .returned (.string ⟨(joined 36 (pcs 21 t o n)).toArray⟩) ∧ Below w.heap.size w w' := by
  have HI : Hid (∀ W, Calls Tryz.prog 93 #[.agg #[.int .i64 21, .string ⟨t.toArray⟩, .string ⟨o.toArray⟩, .int .i64 n, .int .i64 p, .slice a ln cp]] W fun e w' => e = .returned (.string ⟨(insT 21 t o n).toArray⟩) ∧ Below W.heap.size W w') := fun W => inside_21 t o n p a ln cp W ht ho
  have hl := insT_len (k := 21) t o n (by omega) (by omega) (by omega) (by omega) (by omega)
  rw [← pat_ins (by omega) (by omega) (by omega) (by omega) (by omega)]
  generalize insT 21 t o n = z at *
  go_enter Tryz.func57, Tryz.ntmps57
  go_wp2_with (go_at_call 93; refine (HI.out _).mono ?_; rintro e w2 ⟨rfl, hb2⟩)
  go_ret
  exact ⟨ret_str (by simp only [bapp]; rfl), bl2 (ba (Below.refl _ _)) hb2⟩
set_option maxHeartbeats 4000000 in
theorem pattern_22 (t o : List UInt8) (n p : Int) (a : Option Addr) (ln cp : Nat) (w : World) (ht : t.length ≤ 16) (ho : o.length ≤ 16) :
    Calls Tryz.prog 57 #[.agg #[.int .i64 22, .string ⟨t.toArray⟩, .string ⟨o.toArray⟩, .int .i64 n, .int .i64 p, .slice a ln cp]] w fun e w' => e = .returned (.string ⟨(joined 36 (pcs 22 t o n)).toArray⟩) ∧ Below w.heap.size w w' := by
  have HI : Hid (∀ W, Calls Tryz.prog 93 #[.agg #[.int .i64 22, .string ⟨t.toArray⟩, .string ⟨o.toArray⟩, .int .i64 n, .int .i64 p, .slice a ln cp]] W fun e w' => e = .returned (.string ⟨(insT 22 t o n).toArray⟩) ∧ Below W.heap.size W w') := fun W => inside_22 t o n p a ln cp W ht ho
  have hl := insT_len (k := 22) t o n (by omega) (by omega) (by omega) (by omega) (by omega)
  rw [← pat_ins (by omega) (by omega) (by omega) (by omega) (by omega)]
  generalize insT 22 t o n = z at *
  go_enter Tryz.func57, Tryz.ntmps57
  go_wp2_with (go_at_call 93; refine (HI.out _).mono ?_; rintro e w2 ⟨rfl, hb2⟩)
  go_ret
  exact ⟨ret_str (by simp only [bapp]; rfl), bl2 (ba (Below.refl _ _)) hb2⟩
set_option maxHeartbeats 4000000 in
theorem pattern_23 (t o : List UInt8) (n p : Int) (a : Option Addr) (ln cp : Nat) (w : World) (ht : t.length ≤ 16) (ho : o.length ≤ 16) :
    Calls Tryz.prog 57 #[.agg #[.int .i64 23, .string ⟨t.toArray⟩, .string ⟨o.toArray⟩, .int .i64 n, .int .i64 p, .slice a ln cp]] w fun e w' => e = .returned (.string ⟨(joined 36 (pcs 23 t o n)).toArray⟩) ∧ Below w.heap.size w w' := by
  have HI : Hid (∀ W, Calls Tryz.prog 93 #[.agg #[.int .i64 23, .string ⟨t.toArray⟩, .string ⟨o.toArray⟩, .int .i64 n, .int .i64 p, .slice a ln cp]] W fun e w' => e = .returned (.string ⟨(insT 23 t o n).toArray⟩) ∧ Below W.heap.size W w') := fun W => inside_23 t o n p a ln cp W ht ho
  have hl := insT_len (k := 23) t o n (by omega) (by omega) (by omega) (by omega) (by omega)
  rw [← pat_ins (by omega) (by omega) (by omega) (by omega) (by omega)]
  generalize insT 23 t o n = z at *
  go_enter Tryz.func57, Tryz.ntmps57
  go_wp2_with (go_at_call 93; refine (HI.out _).mono ?_; rintro e w2 ⟨rfl, hb2⟩)
  go_ret
  exact ⟨ret_str (by simp only [bapp]; rfl), bl2 (ba (Below.refl _ _)) hb2⟩
set_option maxHeartbeats 4000000 in
theorem pattern_24 (t o : List UInt8) (n p : Int) (a : Option Addr) (ln cp : Nat) (w : World) (ht : t.length ≤ 16) (ho : o.length ≤ 16) :
    Calls Tryz.prog 57 #[.agg #[.int .i64 24, .string ⟨t.toArray⟩, .string ⟨o.toArray⟩, .int .i64 n, .int .i64 p, .slice a ln cp]] w fun e w' => e = .returned (.string ⟨(joined 36 (pcs 24 t o n)).toArray⟩) ∧ Below w.heap.size w w' := by
  have HI : Hid (∀ W, Calls Tryz.prog 93 #[.agg #[.int .i64 24, .string ⟨t.toArray⟩, .string ⟨o.toArray⟩, .int .i64 n, .int .i64 p, .slice a ln cp]] W fun e w' => e = .returned (.string ⟨(insT 24 t o n).toArray⟩) ∧ Below W.heap.size W w') := fun W => inside_24 t o n p a ln cp W ht ho
  have hl := insT_len (k := 24) t o n (by omega) (by omega) (by omega) (by omega) (by omega)
  rw [← pat_ins (by omega) (by omega) (by omega) (by omega) (by omega)]
  generalize insT 24 t o n = z at *
  go_enter Tryz.func57, Tryz.ntmps57
  go_wp2_with (go_at_call 93; refine (HI.out _).mono ?_; rintro e w2 ⟨rfl, hb2⟩)
  go_ret
  exact ⟨ret_str (by simp only [bapp]; rfl), bl2 (ba (Below.refl _ _)) hb2⟩
set_option maxHeartbeats 4000000 in
theorem pattern_25 (t o : List UInt8) (n p : Int) (a : Option Addr) (ln cp : Nat) (w : World) (ht : t.length ≤ 16) (ho : o.length ≤ 16) :
    Calls Tryz.prog 57 #[.agg #[.int .i64 25, .string ⟨t.toArray⟩, .string ⟨o.toArray⟩, .int .i64 n, .int .i64 p, .slice a ln cp]] w fun e w' => e = .returned (.string ⟨(joined 36 (pcs 25 t o n)).toArray⟩) ∧ Below w.heap.size w w' := by
  have HI : Hid (∀ W, Calls Tryz.prog 93 #[.agg #[.int .i64 25, .string ⟨t.toArray⟩, .string ⟨o.toArray⟩, .int .i64 n, .int .i64 p, .slice a ln cp]] W fun e w' => e = .returned (.string ⟨(insT 25 t o n).toArray⟩) ∧ Below W.heap.size W w') := fun W => inside_25 t o n p a ln cp W ht ho
  have hl := insT_len (k := 25) t o n (by omega) (by omega) (by omega) (by omega) (by omega)
  rw [← pat_ins (by omega) (by omega) (by omega) (by omega) (by omega)]
  generalize insT 25 t o n = z at *
  go_enter Tryz.func57, Tryz.ntmps57
  go_wp2_with (go_at_call 93; refine (HI.out _).mono ?_; rintro e w2 ⟨rfl, hb2⟩)
  go_ret
  exact ⟨ret_str (by simp only [bapp]; rfl), bl2 (ba (Below.refl _ _)) hb2⟩
theorem pattern_any (k : Int) (t o : List UInt8) (n p : Int) (a : Option Addr) (ln cp B : Nat) (w : World) (h : PatOk k t o n) (hw : Ok B w) (hB : B ≤ w.heap.size) :
    Calls Tryz.prog 57 #[.agg #[.int .i64 k, .string ⟨t.toArray⟩, .string ⟨o.toArray⟩, .int .i64 n, .int .i64 p, .slice a ln cp]] w fun e w' => e = .returned (.string ⟨(joined 36 (pcs k t o n)).toArray⟩) ∧ Below w.heap.size w w' := by
  have ht := h.text
  have ho := h.other
  rcases kinds25 h.lo h.hi with hk | hk | hk | hk | hk | hk | hk | hk | hk | hk | hk | hk | hk | hk | hk | hk | hk | hk | hk | hk | hk | hk | hk | hk | hk
  · exact pattern_1 k t o n p a ln cp B w h hw hB hk
  · exact pattern_2 k t o n p a ln cp w hk
  · exact pattern_3 k t o n p a ln cp B w h hw hB hk
  · exact pattern_4 k t o n p a ln cp B w h hw hB hk
  · subst hk; exact pattern_5 t o n p a ln cp w ht ho
  · subst hk; exact pattern_6 t o n p a ln cp w ht ho
  · subst hk; exact pattern_7 t o n p a ln cp w ht ho
  · subst hk; exact pattern_8 t o n p a ln cp w ht ho
  · subst hk; exact pattern_9 t o n p a ln cp w ht ho
  · exact pattern_10 k t o n p a ln cp B w h hw hB hk
  · subst hk; exact pattern_11 t o n p a ln cp w ht ho
  · exact pattern_12 k t o n p a ln cp B w h hw hB hk
  · subst hk; exact pattern_13 t o n p a ln cp w ht ho
  · subst hk; exact pattern_14 t o n p a ln cp w ht ho
  · subst hk; exact pattern_15 t o n p a ln cp w ht ho
  · subst hk; exact pattern_16 t o n p a ln cp w ht ho
  · subst hk; exact pattern_17 t o n p a ln cp w ht ho
  · exact pattern_18 k t o n p a ln cp B w h hw hB hk
  · subst hk; exact pattern_19 t o n p a ln cp w ht ho
  · subst hk; exact pattern_20 t o n p a ln cp w ht ho
  · subst hk; exact pattern_21 t o n p a ln cp w ht ho
  · subst hk; exact pattern_22 t o n p a ln cp w ht ho
  · subst hk; exact pattern_23 t o n p a ln cp w ht ho
  · subst hk; exact pattern_24 t o n p a ln cp w ht ho
  · subst hk; exact pattern_25 t o n p a ln cp w ht ho
end Go.Proofs.YtkljakeccfnakaaGreatDoor
