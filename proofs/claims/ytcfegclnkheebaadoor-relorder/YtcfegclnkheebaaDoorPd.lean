/-
  The walks of the program's own Has and step.
-/
import Derived.Test.YtcfegclnkheebaaDoorPc
import Derived.Deep.RegionWith
namespace Go.Proofs.YtcfegclnkheebaaDoor
open Go.RowKit

theorem below_yes (i n : Int) (w : World) (h : 0 ≤ i) (h' : i < n) : Calls Tryd.prog 39 #[.int .i64 i, .int .i64 n] w fun e w' => e = .returned (.bool true) ∧ w' = w :=
  (below_of i n w).mono fun _ _ ⟨a, b⟩ => ⟨by rw [a, decide_eq_true h, decide_eq_true h']; rfl, b⟩
theorem below_no (i n : Int) (w : World) (h : ¬ (0 ≤ i ∧ i < n)) : Calls Tryd.prog 39 #[.int .i64 i, .int .i64 n] w fun e w' => e = .returned (.bool false) ∧ w' = w :=
  (below_of i n w).mono fun _ _ ⟨a, b⟩ => ⟨by
    rw [a]
    by_cases h1 : 0 ≤ i
    · rw [decide_eq_false (show ¬ i < n from fun h2 => h ⟨h1, h2⟩), Bool.and_false]
    · rw [decide_eq_false h1, Bool.false_and], b⟩

set_option maxHeartbeats 800000 in
theorem has_of (v : Value) (zs : List Nat) (i k : Int) (w : World) (hs : Sl w v zs) :
    Calls Tryd.prog 19 #[v, .int .i64 i, .int .i64 k] w fun e w' => e = .returned (.bool (hasB zs i k)) ∧ Below w.heap.size w w' := by
  have T := size_of v zs w hs
  have hx := sz_le zs
  obtain ⟨n, hn⟩ : ∃ n, sz zs = n := ⟨_, rfl⟩
  rw [hn] at T
  by_cases hi : 0 ≤ i ∧ i < n
  · have by1 := fun w => below_yes i n w hi.1 hi.2
    by_cases hk : 0 ≤ k ∧ k < n
    · have by2 := fun w => below_yes k n w hk.1 hk.2
      obtain ⟨i, rfl⟩ := Int.eq_ofNat_of_zero_le hi.1
      obtain ⟨k, rfl⟩ := Int.eq_ofNat_of_zero_le hk.1
      have h1 : i < min zs.length 64 := by unfold sz at hn; omega
      have h2 : k < min zs.length 64 := by unfold sz at hn; omega
      rw [hasB_in h1 h2]
      obtain ⟨b, off, cap, rfl, kc⟩ := hs.at (i := i) (by omega)
      have fx := hs.1 i
      obtain ⟨x, hx⟩ : ∃ x, zs.getD i 0 = x := ⟨_, rfl⟩
      rw [hx] at kc fx ⊢
      have il : (i : Int) < (zs.length : Int) := by omega
      have k64 : k < 64 := by omega
      obtain ⟨z, hz⟩ : ∃ z, z = 2 ^ k := ⟨_, rfl⟩
      have HZ : Hid (z = 2 ^ k) := hz
      have fz : z < 18446744073709551616 := by rw [hz]; exact pow_lt64 k64
      obtain ⟨y, hy⟩ : ∃ y, x &&& z = y := ⟨_, rfl⟩
      have e1 : bits .and .u64 (x : Int) (z : Int) = (y : Int) := by rw [bits_and_u64_nat x z fx fz, hy]
      obtain ⟨r, hr⟩ : ∃ r, x.testBit k = r := ⟨_, rfl⟩
      have e2 : ((y : Int) != 0) = r := by
        rw [Bool.eq_iff_iff, ← hr, ← nz_and, ← hz, hy, bne_iff_ne]; omega
      rw [hr]
      clear hr hy fz hz fx hx h1 h2 hn hi hk hs
      go_enter Tryd.func19, Tryd.ntmps19
      go_wp2_with (first | (go_at_call 38; refine T.mono ?_; rintro e w' ⟨rfl, hw⟩; subst w'))
      go_quiet (first | (go_at_call_of 39 (Value.int .i64 i); exact Calls.quiet_of_same (by1 _)) | (go_at_call_of 39 (Value.int .i64 k); exact Calls.quiet_of_same (by2 _)) | (go_at_call 40; exact Calls.quiet_of_same (bit_of k z _ k64 HZ)))
      go_wp2
      go_ret
      exact ⟨rfl, below_drewN (Below.refl _ _) _⟩
    · have by2 := fun w => below_no k n w hk
      rw [hasB_out (by unfold sz at hn; omega)]
      clear hs
      go_enter Tryd.func19, Tryd.ntmps19
      go_wp2_with (first | (go_at_call 38; refine T.mono ?_; rintro e w' ⟨rfl, hw⟩; subst w'))
      go_quiet (first | (go_at_call_of 39 (Value.int .i64 i); exact Calls.quiet_of_same (by1 _)) | (go_at_call_of 39 (Value.int .i64 k); exact Calls.quiet_of_same (by2 _)))
      go_wp2
      go_ret
      exact ⟨rfl, below_drewN (Below.refl _ _) _⟩
  · have by1 := fun w => below_no i n w hi
    rw [hasB_out (by unfold sz at hn; omega)]
    clear hs
    go_enter Tryd.func19, Tryd.ntmps19
    go_wp2_with (first | (go_at_call 38; refine T.mono ?_; rintro e w' ⟨rfl, hw⟩; subst w'))
    go_quiet (first | (go_at_call 39; first | exact Calls.quiet_of_same (by1 _)))
    go_wp2
    go_ret
    exact ⟨rfl, below_drewN (Below.refl _ _) _⟩
end Go.Proofs.YtcfegclnkheebaaDoor
