/-
  The walks of the document's own functions of layer 2 that only read.
-/
import Derived.Test.YtcfegclnkheebaaDoorProg
import Derived.Test.YtcfegclnkheebaaDoorM
import Derived.WalkKit
import Derived.WalkSpells
import Derived.WalkLawsBesides
import Derived.Deep.QuietTactic
import Derived.BigQuiet
namespace Go.Proofs.YtcfegclnkheebaaDoor
open Go.RowKit

theorem ret_int {k : IntKind} {a b : Int} (h : a = b) : Ending.returned (.int k a) = .returned (.int k b) := by rw [h]
theorem ret_bool {a b : Bool} (h : a = b) : Ending.returned (.bool a) = .returned (.bool b) := by rw [h]

set_option maxHeartbeats 400000 in
theorem size_any (a : Option Addr) (len cap : Nat) (w : World) :
    Calls Tryd.prog 41 #[.slice a len cap] w fun e w' => e = .returned (.int .i64 (min len 64 : Nat)) ∧ w' = w := by
  by_cases h : 64 < len
  · have h' : (64 : Int) < (len : Int) := by omega
    go_enter Tryd.func41, Tryd.ntmps41
    go_wp2
    go_ret
    exact ⟨ret_int (by omega), rfl⟩
  · have h' : ¬ (64 : Int) < (len : Int) := by omega
    go_enter Tryd.func41, Tryd.ntmps41
    go_wp2
    go_ret
    exact ⟨ret_int (by omega), rfl⟩

set_option maxHeartbeats 400000 in
theorem has_in (b off len cap i k n : Nat) (z : Nat) (w : World) (hn : min len 64 = n) (h1 : i < n) (h3 : k < n) (hz : z < 18446744073709551616)
    (hc : w.cell? ⟨b, off + i, none⟩ = some (.int .u64 (z : Int))) :
    Calls Tryd.prog 20 #[.slice (some ⟨b, off, none⟩) len cap, .int .i64 i, .int .i64 k] w fun e w' => e = .returned (.bool (z.testBit k)) ∧ w' = w := by
  have e2 : (i : Int) < (len : Int) := by omega
  have e3 : (i : Int) < (n : Int) := by omega
  have e4 : (k : Int) < (n : Int) := by omega
  have e5 : decide ((i : Int) < 0) = false := by simp
  have e6 : decide ((k : Int) < 0) = false := by simp
  have p1 := pow_in (show k < 64 by omega)
  have p2 := pow_ne k
  have p3 := div_in (k := k) hz
  have p4 := bit_eq z k
  have p5 := bit_eq' z k
  clear hz
  go_enter Tryd.func20, Tryd.ntmps20
  go_wp2_with (go_at_call 41; refine (size_any _ _ _ _).mono ?_; rintro e w' ⟨rfl, rfl⟩)
  go_ret
  exact ⟨rfl, rfl⟩

set_option maxHeartbeats 400000 in
theorem has_out (a : Option Addr) (len cap : Nat) (i k : Int) (n : Nat) (w : World) (hn : min len 64 = n) (h : i < 0 ∨ (n : Int) ≤ i ∨ k < 0 ∨ (n : Int) ≤ k) :
    Calls Tryd.prog 20 #[.slice a len cap, .int .i64 i, .int .i64 k] w fun e w' => e = .returned (.bool false) ∧ w' = w := by
  by_cases h1 : i < 0
  · have e5 : decide (i < 0) = true := by simpa using h1
    go_enter Tryd.func20, Tryd.ntmps20
    go_wp2_with (go_at_call 41; refine (size_any _ _ _ _).mono ?_; rintro e w' ⟨rfl, rfl⟩)
    go_ret
    exact ⟨rfl, rfl⟩
  · have e5 : decide (i < 0) = false := by simpa using h1
    by_cases h2 : (n : Int) ≤ i
    · go_enter Tryd.func20, Tryd.ntmps20
      go_wp2_with (go_at_call 41; refine (size_any _ _ _ _).mono ?_; rintro e w' ⟨rfl, rfl⟩)
      go_ret
      exact ⟨rfl, rfl⟩
    · by_cases h3 : k < 0
      · have e6 : decide (k < 0) = true := by simpa using h3
        go_enter Tryd.func20, Tryd.ntmps20
        go_wp2_with (go_at_call 41; refine (size_any _ _ _ _).mono ?_; rintro e w' ⟨rfl, rfl⟩)
        go_ret
        exact ⟨rfl, rfl⟩
      · have e6 : decide (k < 0) = false := by simpa using h3
        have h4 : (n : Int) ≤ k := by omega
        go_enter Tryd.func20, Tryd.ntmps20
        go_wp2_with (go_at_call 41; refine (size_any _ _ _ _).mono ?_; rintro e w' ⟨rfl, rfl⟩)
        go_ret
        exact ⟨rfl, rfl⟩
end Go.Proofs.YtcfegclnkheebaaDoor
