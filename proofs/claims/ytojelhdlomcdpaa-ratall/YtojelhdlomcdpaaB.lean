/-
  The walks of 'divisor', 'Least' and 'ifRight' of package rat.
-/
import Derived.Test.YtojelhdlomcdpaaA
namespace Go.Proofs.Ytojelhdlomcdpaa
open Go.RowKit

set_option maxHeartbeats 400000 in
theorem divisor_any (n d : Int) (w : World) (h1 : 0 ≤ n) (h2 : n ≤ 1048576) (h3 : 1 ≤ d) (h4 : d ≤ 1048576) :
    Calls Try.prog 24 #[.int .i64 n, .int .i64 d] w fun e w' => e = .returned (.int .i64 (gI n d)) ∧ w' = w := by
  go_enter Try.func24, Try.ntmps24
  go_wp2
  go_loop [0, 1] (fun x y => ∃ a b : Int, 0 ≤ a ∧ a ≤ 1048576 ∧ 1 ≤ b ∧ b ≤ 1048576 ∧ Hid (gI a b = gI n d) ∧ x = .int .i64 a ∧ y = .int .i64 b) (fun x _ => (intOf x).toNat)
  case atStart => exact ⟨n, d, h1, h2, h3, h4, rfl, rfl, rfl⟩
  case round =>
    obtain ⟨a, b, a1, a2, b1, b2, hg, rfl, rfl⟩ := hrel
    by_cases hz : a = 0
    · subst hz
      go_wp2
      go_ret
      exact ⟨ret_int (by rw [← hg.out]; exact (g_zero b (by omega)).symm), rfl⟩
    · have hlt := Int.emod_lt_of_pos b (show 0 < a by omega)
      have hge := Int.emod_nonneg b hz
      go_wp2
      go_round
      case rel => exact ⟨b % a, a, by omega, by omega, by omega, by omega, by rw [Hid, g_step]; exact hg.out, rfl, rfl⟩
      case measure => simp [intOf]; omega

theorem divisor_neg (n d : Int) (w : World) (h1 : n ≤ 0) (h2 : -1048576 ≤ n) (h3 : 1 ≤ d) (h4 : d ≤ 1048576) :
    Calls Try.prog 24 #[.int .i64 (-n), .int .i64 d] w fun e w' => e = .returned (.int .i64 (gI n d)) ∧ w' = w := by
  have h := divisor_any (-n) d w (by omega) (by omega) h3 h4
  have e : gI (-n) d = gI n d := by unfold gI; rw [Int.neg_gcd]
  rw [e] at h; exact h

set_option maxHeartbeats 400000 in
theorem least_no (n d : Int) (w : World) (h : rightB n d = false) :
    Calls Try.prog 17 #[.agg #[.int .i64 n, .int .i64 d]] w fun e w' => e = .returned (.agg #[.int .i64 n, .int .i64 d]) ∧ Below w.heap.size w w' := by
  go_enter Try.func17, Try.ntmps17
  go_wp2_with (go_at_call 13; refine (right_any _ _ _).mono ?_; rintro e w' ⟨rfl, hb⟩; obtain ⟨hc, hf⟩ := bcell hb; have hz := hb.size; try simp at hz; have hz0 : w.heap.size < w'.heap.size := (by omega); have hz1 : w.heap.size + 1 < w'.heap.size := (by omega))
  exact bodyPost_ret (v := .agg #[.int .i64 n, .int .i64 d]) (by simp [results, Try.results17, go_sem, hc]) rfl ⟨rfl, bs (bs (bt (ba (ba (Below.refl _ _))) hb) (by simp)) (by simp)⟩

set_option maxHeartbeats 400000 in
theorem least_yes (n d : Int) (w : World) (h : rightB n d = true) :
    Calls Try.prog 17 #[.agg #[.int .i64 n, .int .i64 d]] w fun e w' => e = .returned (.agg #[.int .i64 (lN n d), .int .i64 (lD n d)]) ∧ Below w.heap.size w w' := by
  obtain ⟨a1, a2, a3, a4⟩ := (right_iff _ _).1 h
  have gp := g_pos (n := n) a1
  have e1 := lN_tdiv n d
  have e2 : d / gI n d = lD n d := rfl
  obtain ⟨b1, b2⟩ := lN_bd (B := 1048576) a1 (by omega) a3 a4
  have b3 := lD_le (n := n) a1
  have b4 := lD_pos (n := n) a1
  by_cases hn : 0 ≤ n
  · go_enter Try.func17, Try.ntmps17
    go_wp2_with (first | (go_at_call 24; refine (divisor_any _ _ _ (by omega) (by omega) (by omega) (by omega)).mono ?_; rintro e w' ⟨rfl, rfl⟩) | (go_at_call 13; refine (right_any _ _ _).mono ?_; rintro e w' ⟨rfl, hb⟩; obtain ⟨hc, hf⟩ := bcell hb; have hz := hb.size; try simp at hz; have hz0 : w.heap.size < w'.heap.size := (by omega); have hz1 : w.heap.size + 1 < w'.heap.size := (by omega)))
    go_region
    go_wp2
    exact bodyPost_ret (v := .agg #[.int .i64 (lN n d), .int .i64 (lD n d)]) (by simp [results, Try.results17, go_sem, hc]) rfl ⟨rfl, bd (bs (bs (bt (ba (ba (Below.refl _ _))) hb) (by simp)) (by simp))⟩
  · go_enter Try.func17, Try.ntmps17
    go_wp2_with (first | (go_at_call 24; refine (divisor_neg _ _ _ (by omega) (by omega) (by omega) (by omega)).mono ?_; rintro e w' ⟨rfl, rfl⟩) | (go_at_call 13; refine (right_any _ _ _).mono ?_; rintro e w' ⟨rfl, hb⟩; obtain ⟨hc, hf⟩ := bcell hb; have hz := hb.size; try simp at hz; have hz0 : w.heap.size < w'.heap.size := (by omega); have hz1 : w.heap.size + 1 < w'.heap.size := (by omega)))
    go_region
    go_wp2
    exact bodyPost_ret (v := .agg #[.int .i64 (lN n d), .int .i64 (lD n d)]) (by simp [results, Try.results17, go_sem, hc]) rfl ⟨rfl, bd (bs (bs (bt (ba (ba (Below.refl _ _))) hb) (by simp)) (by simp))⟩

def lsN (n d : Int) : Int := if rightB n d = true then lN n d else n
def lsD (n d : Int) : Int := if rightB n d = true then lD n d else d
theorem least_any (n d : Int) (w : World) :
    Calls Try.prog 17 #[.agg #[.int .i64 n, .int .i64 d]] w fun e w' => e = .returned (.agg #[.int .i64 (lsN n d), .int .i64 (lsD n d)]) ∧ Below w.heap.size w w' := by
  cases h : rightB n d
  · have := least_no n d w h
    simpa [lsN, lsD, h] using this
  · have := least_yes n d w h
    simpa [lsN, lsD, h] using this

set_option maxHeartbeats 400000 in
theorem ifRight_yes (n d : Int) (w : World) (h : rightB n d = true) :
    Calls Try.prog 21 #[.agg #[.int .i64 n, .int .i64 d]] w fun e w' => e = .returned (.tuple #[.agg #[.int .i64 n, .int .i64 d], .bool true]) ∧ Below w.heap.size w w' := by
  go_enter Try.func21, Try.ntmps21
  go_wp2_with (go_at_call 13; refine (right_any _ _ _).mono ?_; rintro e w' ⟨rfl, hb⟩; obtain ⟨hc, hf⟩ := bcell hb; have hz := hb.size; try simp at hz; have hz0 : w.heap.size < w'.heap.size := (by omega); have hz1 : w.heap.size + 1 < w'.heap.size := (by omega))
  exact bodyPost_ret (v := .tuple #[.agg #[.int .i64 n, .int .i64 d], .bool true]) (by simp [results, Try.results21, go_sem, hc]) rfl ⟨rfl, bs (bs (bt (ba (ba (Below.refl _ _))) hb) (by simp)) (by simp)⟩

set_option maxHeartbeats 400000 in
theorem ifRight_no (n d : Int) (w : World) (h : rightB n d = false) :
    Calls Try.prog 21 #[.agg #[.int .i64 n, .int .i64 d]] w fun e w' => e = .returned (.tuple #[.agg #[.int .i64 0, .int .i64 0], .bool false]) ∧ Below w.heap.size w w' := by
  go_enter Try.func21, Try.ntmps21
  go_wp2_with (go_at_call 13; refine (right_any _ _ _).mono ?_; rintro e w' ⟨rfl, hb⟩; obtain ⟨hc, hf⟩ := bcell hb; have hz := hb.size; try simp at hz; have hz0 : w.heap.size < w'.heap.size := (by omega); have hz1 : w.heap.size + 1 < w'.heap.size := (by omega))
  exact bodyPost_ret (v := .tuple #[.agg #[.int .i64 0, .int .i64 0], .bool false]) (by simp [results, Try.results21, go_sem, hc]) rfl ⟨rfl, bs (bs (bt (ba (ba (Below.refl _ _))) hb) (by simp)) (by simp)⟩
end Go.Proofs.Ytojelhdlomcdpaa
