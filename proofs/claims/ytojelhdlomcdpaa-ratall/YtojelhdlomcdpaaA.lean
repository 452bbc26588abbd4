/-
  The walks of 'within', 'Right', 'Compare' and 'Cmp' of package rat: what each call answers; what was in memory stays.
-/
import Derived.Test.YtojelhdlomcdpaaProg
import Derived.Test.YtojelhdlomcdpaaM
import Derived.WalkKit
import Derived.WalkSpells
import Derived.WalkLawsBesides
import Derived.Deep.QuietTactic
import Derived.BigQuiet
namespace Go.Proofs.Ytojelhdlomcdpaa
open Go.RowKit

theorem ret_int {k : IntKind} {a b : Int} (h : a = b) : Ending.returned (.int k a) = .returned (.int k b) := by rw [h]
theorem ret_bool {a b : Bool} (h : a = b) : Ending.returned (.bool a) = .returned (.bool b) := by rw [h]
theorem bcell {W w1 : World} (hb : Below W.heap.size W w1) : (∀ b o, b < W.heap.size → w1.cell? ⟨b, o, none⟩ = W.cell? ⟨b, o, none⟩) ∧ (∀ b o, b < W.heap.size → w1.frozen? ⟨b, o, none⟩ = W.frozen? ⟨b, o, none⟩) :=
  ⟨fun b o h => hb.cell (p := ⟨b, o, none⟩) h, fun b o h => hb.frozen (p := ⟨b, o, none⟩) h⟩

theorem bt {w w1 w2 : World} (h1 : Below w.heap.size w w1) (h2 : Below w1.heap.size w1 w2) : Below w.heap.size w w2 := h1.trans (h2.mono h1.size)
theorem ba {w w1 : World} {o : Obj} (h : Below w.heap.size w w1) : Below w.heap.size w (w1.alloc o) := h.alloc h.size o
theorem bd {w w1 : World} (h : Below w.heap.size w w1) : Below w.heap.size w w1.drew := h.drew
theorem bs {w w1 : World} {p : Addr} {u : Value} (h : Below w.heap.size w w1) (hp : w.heap.size ≤ p.block) : Below w.heap.size w (w1.setCell p u) := h.setCell hp u
theorem bsz {w w1 : World} (h : Below w.heap.size w w1) : (∀ k, k < w.heap.size → k < w1.heap.size) ∧ w.heap.size ≤ w1.heap.size := ⟨fun _ hk => Nat.lt_of_lt_of_le hk h.size, h.size⟩

theorem keepc {W w1 : World} (hb : Below W.heap.size W w1) (b : Nat) (h : b < W.heap.size) : (∀ o, w1.cell? ⟨b, o, none⟩ = W.cell? ⟨b, o, none⟩) ∧ (∀ o, w1.frozen? ⟨b, o, none⟩ = W.frozen? ⟨b, o, none⟩) ∧ b < w1.heap.size :=
  ⟨fun o => hb.cell (p := ⟨b, o, none⟩) h, fun o => hb.frozen (p := ⟨b, o, none⟩) h, Nat.lt_of_lt_of_le h hb.size⟩

theorem keep2 {W w1 : World} (hb : Below W.heap.size W w1) (b : Nat) (x y : Value) (h : b < W.heap.size) (hx : W.cell? ⟨b, 0, none⟩ = some x) (hy : W.cell? ⟨b, 1, none⟩ = some y) (f0 : W.frozen? ⟨b, 0, none⟩ = false) (f1 : W.frozen? ⟨b, 1, none⟩ = false) :
    w1.cell? ⟨b, 0, none⟩ = some x ∧ w1.cell? ⟨b, 1, none⟩ = some y ∧ w1.frozen? ⟨b, 0, none⟩ = false ∧ w1.frozen? ⟨b, 1, none⟩ = false ∧ b < w1.heap.size :=
  ⟨(hb.cell (p := ⟨b, 0, none⟩) h).trans hx, (hb.cell (p := ⟨b, 1, none⟩) h).trans hy, (hb.frozen (p := ⟨b, 0, none⟩) h).trans f0, (hb.frozen (p := ⟨b, 1, none⟩) h).trans f1, Nat.lt_of_lt_of_le h hb.size⟩

set_option maxHeartbeats 400000 in
theorem within_any (n l m : Int) (w : World) :
    Calls Try.prog 22 #[.int .i64 n, .int .i64 l, .int .i64 m] w fun e w' => e = .returned (.bool (decide (l ≤ n ∧ n ≤ m))) ∧ w' = w := by
  by_cases h1 : l ≤ n
  · by_cases h2 : n ≤ m
    · go_enter Try.func22, Try.ntmps22
      go_wp2
      go_ret
      exact ⟨ret_bool (by simp [h1, h2]), rfl⟩
    · go_enter Try.func22, Try.ntmps22
      go_wp2
      go_ret
      exact ⟨ret_bool (by simp; omega), rfl⟩
  · go_enter Try.func22, Try.ntmps22
    go_wp2
    go_ret
    exact ⟨ret_bool (by simp; omega), rfl⟩

set_option maxHeartbeats 400000 in
theorem right_any (n d : Int) (w : World) :
    Calls Try.prog 13 #[.agg #[.int .i64 n, .int .i64 d]] w fun e w' => e = .returned (.bool (rightB n d)) ∧ Below w.heap.size w w' := by
  by_cases h1 : 1 ≤ d ∧ d ≤ 1024
  · go_enter Try.func13, Try.ntmps13
    go_wp2_with (go_at_call 22; refine (within_any _ _ _ _).mono ?_; rintro e w' ⟨rfl, rfl⟩)
    go_ret
    exact ⟨ret_bool (by simp [rightB, h1]), (Below.refl _ _).alloc (Nat.le_refl _) _⟩
  · go_enter Try.func13, Try.ntmps13
    go_wp2_with (go_at_call 22; refine (within_any _ _ _ _).mono ?_; rintro e w' ⟨rfl, rfl⟩)
    go_ret
    exact ⟨ret_bool (by simp [rightB]; omega), (Below.refl _ _).alloc (Nat.le_refl _) _⟩

set_option maxHeartbeats 400000 in
theorem nan_any (n : Int) (w : World) :
    Calls Try.prog 25 #[.int .i64 n] w fun e w' => e = .returned (.bool false) ∧ w' = w := by
  go_enter Try.func25, Try.ntmps25
  go_wp2
  go_ret
  exact ⟨ret_bool (by simp), rfl⟩

set_option maxHeartbeats 400000 in
theorem compare_any (x y : Int) (w : World) :
    Calls Try.prog 23 #[.int .i64 x, .int .i64 y] w fun e w' => e = .returned (.int .i64 (sgn x y)) ∧ w' = w := by
  by_cases h1 : x < y
  · go_enter Try.func23, Try.ntmps23
    go_wp2_with (go_at_call 25; refine (nan_any _ _).mono ?_; rintro e w' ⟨rfl, rfl⟩)
    go_ret
    exact ⟨ret_int (sgn_lt h1).symm, rfl⟩
  · by_cases h2 : y < x
    · go_enter Try.func23, Try.ntmps23
      go_wp2_with (go_at_call 25; refine (nan_any _ _).mono ?_; rintro e w' ⟨rfl, rfl⟩)
      go_ret
      exact ⟨ret_int (sgn_gt h2).symm, rfl⟩
    · go_enter Try.func23, Try.ntmps23
      go_wp2_with (go_at_call 25; refine (nan_any _ _).mono ?_; rintro e w' ⟨rfl, rfl⟩)
      go_ret
      exact ⟨ret_int (sgn_eq (by omega)).symm, rfl⟩
set_option maxHeartbeats 400000 in
theorem cmp_any (n d m c : Int) (w : World) :
    Calls Try.prog 15 #[.agg #[.int .i64 n, .int .i64 d], .agg #[.int .i64 m, .int .i64 c]] w fun e w' => e = .returned (.int .i64 (cmpI n d m c)) ∧ Below w.heap.size w w' := by
  cases h1 : rightB n d
  · go_enter Try.func15, Try.ntmps15
    go_wp2_with (go_at_call 13; refine (right_any _ _ _).mono ?_; rintro e w' ⟨rfl, hb⟩)
    go_ret
    exact ⟨ret_int (cmpI_no1 h1).symm, bt (ba (ba (Below.refl _ _))) hb⟩
  · cases h2 : rightB m c
    · go_enter Try.func15, Try.ntmps15
      go_wp2_with (go_at_call 13; refine (right_any _ _ _).mono ?_; rintro e w' ⟨rfl, hb⟩; obtain ⟨hc, hf⟩ := bcell hb; have hz := hb.size; try simp at hz; have hz0 : w.heap.size < w'.heap.size := (by omega); have hz1 : w.heap.size + 1 < w'.heap.size := (by omega))
      go_ret
      exact ⟨ret_int (cmpI_no2 h2).symm, bt (bt (ba (ba (Below.refl _ _))) ‹_›) ‹_›⟩
    · obtain ⟨a1, a2, a3, a4⟩ := (right_iff _ _).1 h1
      obtain ⟨b1, b2, b3, b4⟩ := (right_iff _ _).1 h2
      have p1 := prod_bd a3 a4 b1 b2
      have p2 := prod_bd b3 b4 a1 a2
      go_enter Try.func15, Try.ntmps15
      go_wp2_with (first | (go_at_call 23; refine (compare_any _ _ _).mono ?_; rintro e w' ⟨rfl, rfl⟩) | (go_at_call 13; refine (right_any _ _ _).mono ?_; rintro e w' ⟨rfl, hb⟩; obtain ⟨hc, hf⟩ := bcell hb; have hz := hb.size; try simp at hz; have hz0 : w.heap.size < w'.heap.size := (by omega); have hz1 : w.heap.size + 1 < w'.heap.size := (by omega)))
      go_ret
      exact ⟨ret_int (cmpI_right h1 h2).symm, bt (bt (ba (ba (Below.refl _ _))) ‹_›) ‹_›⟩
end Go.Proofs.Ytojelhdlomcdpaa
