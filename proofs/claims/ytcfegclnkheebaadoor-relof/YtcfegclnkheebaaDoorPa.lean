/-
  The walks of the program's own small functions of layer 2: size, below, bit, first; and of the trailing zeros.
-/
import Derived.Test.YtcfegclnkheebaaDoorB
import Derived.Test.YtcfegclnkheebaaDoorC
import Derived.Test.YtcfegclnkheebaaDoorN
namespace Go.Proofs.YtcfegclnkheebaaDoor
open Go.RowKit

set_option maxHeartbeats 400000 in
theorem own_size (a : Option Addr) (len cap : Nat) (w : World) (h : len * 8 ≤ 140737488351232) :
    Calls Tryd.prog 38 #[.slice a len cap] w fun e w' => e = .returned (.int .i64 (min len 64 : Nat)) ∧ w' = w := by
  by_cases h : 64 < len
  · have h' : (64 : Int) < (len : Int) := by omega
    go_enter Tryd.func38, Tryd.ntmps38
    go_wp2
    go_ret
    exact ⟨ret_int (by omega), rfl⟩
  · have h' : ¬ (64 : Int) < (len : Int) := by omega
    go_enter Tryd.func38, Tryd.ntmps38
    go_wp2
    go_ret
    exact ⟨ret_int (by omega), rfl⟩
theorem size_of (u : Value) (xs : List Nat) (w : World) (hu : Sl w u xs) :
    Calls Tryd.prog 38 #[u] w fun e w' => e = .returned (.int .i64 (sz xs : Nat)) ∧ w' = w := by
  obtain ⟨_, l, a, ca, rfl, _⟩ := hu
  exact own_size a _ ca w l

set_option maxHeartbeats 400000 in
theorem below_of (i n : Int) (w : World) :
    Calls Tryd.prog 39 #[.int .i64 i, .int .i64 n] w fun e w' => e = .returned (.bool (decide (0 ≤ i) && decide (i < n))) ∧ w' = w := by
  by_cases h : 0 ≤ i
  · rw [decide_eq_true h]
    go_enter Tryd.func39, Tryd.ntmps39
    go_wp2
    go_ret
    exact ⟨rfl, rfl⟩
  · rw [decide_eq_false h]
    go_enter Tryd.func39, Tryd.ntmps39
    go_wp2
    go_ret
    exact ⟨rfl, rfl⟩

set_option maxHeartbeats 400000 in
theorem bit_of (k z : Nat) (w : World) (h : k < 64) (hz : Hid (z = 2 ^ k)) :
    Calls Tryd.prog 40 #[.int .i64 k] w fun e w' => e = .returned (.int .u64 z) ∧ w' = w := by
  have p1 := pow_in h
  go_enter Tryd.func40, Tryd.ntmps40
  go_wp2
  go_ret
  exact ⟨by rw [hz.out, pow_cast]; rfl, rfl⟩

theorem first_val {n : Nat} (h : n ≤ 64) : IntKind.u64.wrap (IntKind.u64.wrap ((2 : Int) ^ n) - 1) = ((msk n : Nat) : Int) := by
  by_cases e : n = 64
  · subst e; rfl
  · rw [pow_in (by omega), ← pow_cast]
    have h1 := pow_pos2 n
    have h2 : ((2 ^ n : Nat) : Int) - 1 = ((msk n : Nat) : Int) := by unfold msk; omega
    rw [h2]
    exact nat_u64 (msk_lt h)
set_option maxHeartbeats 400000 in
theorem first_of (n z : Nat) (w : World) (h : n ≤ 64) (hz : Hid (z = msk n)) :
    Calls Tryd.prog 44 #[.int .i64 n] w fun e w' => e = .returned (.int .u64 z) ∧ w' = w := by
  go_enter Tryd.func44, Tryd.ntmps44
  go_wp2
  go_ret
  refine ⟨?_, rfl⟩
  rw [hz.out]
  exact congrArg Ending.returned (congrArg (Value.int .u64) (first_val h))

/-- The table of the trailing zeros, as its text lays it. -/
def Tab (w : World) : Prop := ∀ j, j < 64 → w.cell? ⟨0, j, none⟩ = some (.int .u8 (Lib.deBruijn64tab.getD j 0 : Nat))
theorem tz_key (x a : Nat) (hx : x < 18446744073709551616) (hx0 : x ≠ 0) (hlow : x &&& (18446744073709551616 - x) = a) :
    IntKind.u64.wrap (bits .and .u64 (x : Int) (IntKind.u64.wrap (-(x : Int))) * 285870213051353865) / 288230376151711744 = ((a * 285870213051353865 % 18446744073709551616 / 288230376151711744 : Nat) : Int) := by
  have e1 : IntKind.u64.wrap (-(x : Int)) = ((18446744073709551616 - x : Nat) : Int) := by rw [IntKind.wrap_u64]; omega
  rw [e1, bits_and_u64_nat x _ hx (by omega), hlow, IntKind.wrap_u64]
  omega
set_option maxHeartbeats 1000000 in
theorem tz_core (x k idx : Nat) (w : World) (hx0 : ((x : Int) == 0) = false)
    (key : IntKind.u64.wrap (bits .and .u64 (x : Int) (IntKind.u64.wrap (-(x : Int))) * 285870213051353865) / 288230376151711744 = (idx : Int))
    (hi : idx < 64) (hk : k < 64) (hcell : w.cell? ⟨0, idx, none⟩ = some (.int .u8 k)) :
    Calls Tryd.prog 43 #[.int .u64 x] w fun e w' => e = .returned (.int .i64 k) ∧ w' = w := by
  go_enter Tryd.func43, Tryd.ntmps43
  go_wp2_with (simp only [key])
  go_ret
  exact ⟨rfl, rfl⟩
theorem tz_of (x k : Nat) (w : World) (hx : x < 18446744073709551616) (hx0 : x ≠ 0) (h : Hid (k = Lib.ctz 64 x)) (hT : Tab w) :
    Calls Tryd.prog 43 #[.int .u64 x] w fun e w' => e = .returned (.int .i64 k) ∧ w' = w := by
  obtain rfl := h.out
  obtain ⟨hlow, hk⟩ := Lib.lowest_bit 64 x hx0 hx
  obtain ⟨hi, htab⟩ := Lib.deBruijn64_at _ hk
  have hcell := hT _ hi
  rw [htab] at hcell
  exact (tz_core x _ _ w (by simp; omega) (tz_key x _ hx hx0 hlow) hi hk hcell)
theorem Tab.below {w w' : World} (hb : Below w.heap.size w w') (h : Tab w) : Tab w' := fun j hj => by
  have := h j hj
  exact (hb.cell (p := ⟨0, j, none⟩) (World.block_lt_of_cell? _ _ this)).trans this
theorem grown_set (w : World) (g i : Nat) (v : Value) : w.grownBy (w.setCell ⟨g, i, none⟩ v) (some g) :=
  ⟨rfl, rfl, rfl, by simp, fun j _ hj => heap_setCell_other _ _ _ _ (fun e => hj (by simp [e]))⟩
theorem below_set {w w1 : World} {g i : Nat} {v : Value} (h : Below w.heap.size w w1) (hg : w.heap.size ≤ g) : Below w.heap.size w (w1.setCell ⟨g, i, none⟩ v) := below_own h (grown_set w1 g i v) hg
theorem hasB_row {xs : List Nat} {i : Nat} (hi : i < sz xs) (b : Nat) : hasB xs i b = ((xs.getD i 0).testBit b && decide (b < sz xs)) := by
  by_cases h : b < sz xs
  · rw [hasB_in (by unfold sz at hi; exact hi) (by unfold sz at h; exact h), decide_eq_true h, Bool.and_true]
  · rw [hasB_out (by unfold sz at h; omega), decide_eq_false h, Bool.and_false]
theorem hasB_and {xs : List Nat} {m : Nat} (hm : sz xs ≤ m) (a b : Nat) : (decide (a < m) && hasB xs a b) = hasB xs a b := by
  cases h : hasB xs a b
  · simp
  · have := (hasB_lt h).1
    rw [decide_eq_true (show a < m by omega)]; rfl
theorem hasB_and' {xs : List Nat} {m : Nat} (hm : sz xs ≤ m) (a b : Nat) : (decide (b < m) && hasB xs a b) = hasB xs a b := by
  cases h : hasB xs a b
  · simp
  · have := (hasB_lt h).2
    rw [decide_eq_true (show b < m by omega)]; rfl
theorem row_next (F : Nat → Nat → Bool) (i a b : Nat) : (if a = i then F i b else decide (a < i) && F a b) = (decide (a < i + 1) && F a b) := by
  by_cases e : a = i
  · subst e; rw [if_pos rfl, decide_eq_true (show a < a + 1 by omega)]; rfl
  · have : decide (a < i + 1) = decide (a < i) := by rw [decide_eq_decide]; omega
    rw [if_neg e, this]
end Go.Proofs.YtcfegclnkheebaaDoor
