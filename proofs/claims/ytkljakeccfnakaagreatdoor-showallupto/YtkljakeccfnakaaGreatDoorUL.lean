/-
  The walk of the document's own arms of a match of options.
-/
import Derived.Test.YtkljakeccfnakaaGreatDoorTP
import Derived.Deep.QuietTactic
import Derived.BigQuiet
namespace Go.Proofs.YtkljakeccfnakaaGreatDoor
open Go.RowKit

theorem ret_pair {a b : ByteArray} {c d : Bool} (h : a = b) (k : c = d) : Ending.returned (.tuple #[.string a, .bool c]) = .returned (.tuple #[.string b, .bool d]) := by rw [h, k]
theorem bdn {B n : Nat} {a w : World} (h : Below B a w) : Below B a (w.drewN n) := ⟨h.os, h.tape, h.output, h.size, h.block⟩
/-- What stands in the kids' texts' row. -/
structure Txt3 (w : World) (kb : Nat) (s0 s1 s2 : List UInt8) : Prop where
  c0 : w.cell? ⟨kb, 0, none⟩ = some (.string ⟨s0.toArray⟩)
  c1 : w.cell? ⟨kb, 1, none⟩ = some (.string ⟨s1.toArray⟩)
  c2 : w.cell? ⟨kb, 2, none⟩ = some (.string ⟨s2.toArray⟩)
  lt : kb < w.heap.size
  l0 : s0.length ≤ 2000000
  l1 : s1.length ≤ 2000000
  l2 : s2.length ≤ 2000000

set_option maxHeartbeats 4000000 in
theorem refArms_1 (t o : List UInt8) (p : Int) (b off cp kb kcp : Nat) (s0 s1 s2 : List UInt8) (k2 : Int) (w : World) (K : Txt3 w kb s0 s1 s2) (bl : b < w.heap.size) (z2 : w.cell? ⟨b, off + 12, none⟩ = some (.int .i64 k2)) (ht : t.length ≤ 100) :
    Calls Tryz.prog 63 #[.agg #[.int .i64 24, .string ⟨t.toArray⟩, .string ⟨o.toArray⟩, .int .i64 1, .int .i64 p, .slice (some ⟨b, off, none⟩) 3 cp], .slice (some ⟨kb, 0, none⟩) 3 kcp] w fun e w' => e = .returned (.tuple #[.string ⟨([40] ++ [109, 97, 116, 99, 104, 32] ++ s0 ++ [32, 119, 105, 116, 104, 32] ++ [110, 111, 110, 101, 32, 45, 62, 32] ++ s1 ++ [41]).toArray⟩, .bool ((k2 == 3 && t == []))]) ∧ Below w.heap.size w w' := by
  obtain ⟨c0, c1, c2, kl, l0, l1, l2⟩ := K
  have HN : Hid (∀ W : World, Calls Tryz.prog 27 #[.string ⟨t.toArray⟩] W fun e w' => e = .returned (.bool (isNameB t)) ∧ w' = W) := fun W => refIsName_any ⟨t.toArray⟩ W (by rw [Lib.size_eq]; exact Nat.le_trans ht (by omega))

  have q : ((⟨t.toArray⟩ : ByteArray).toList == []) = (t == []) := by rw [Lib.toList_data]
  by_cases d : k2 = 3
  · subst d
    go_enter Tryz.func63, Tryz.ntmps63
    go_wp2_with fail
    go_quiet (fail)
    go_wp2_with fail
    go_ret2
    exact ⟨ret_pair (by simp only [bapp]; rfl) (by rw [← q]; simp), bdn (ba (Below.refl _ _))⟩
  · have d' : (k2 == 3) = false := by rw [beq_eq_false_iff_ne]; exact d
    clear d
    go_enter Tryz.func63, Tryz.ntmps63
    go_wp2_with fail
    go_quiet (fail)
    go_wp2_with fail
    go_ret2
    exact ⟨ret_pair (by simp only [bapp]; rfl) (by rw [d']; rfl), bdn (ba (Below.refl _ _))⟩

set_option maxHeartbeats 4000000 in
theorem refArms_2 (t o : List UInt8) (p : Int) (b off cp kb kcp : Nat) (s0 s1 s2 : List UInt8) (k1 : Int) (w : World) (K : Txt3 w kb s0 s1 s2) (bl : b < w.heap.size) (z1 : w.cell? ⟨b, off + 6, none⟩ = some (.int .i64 k1)) (ht : t.length ≤ 100) :
    Calls Tryz.prog 63 #[.agg #[.int .i64 24, .string ⟨t.toArray⟩, .string ⟨o.toArray⟩, .int .i64 2, .int .i64 p, .slice (some ⟨b, off, none⟩) 3 cp], .slice (some ⟨kb, 0, none⟩) 3 kcp] w fun e w' => e = .returned (.tuple #[.string ⟨([40] ++ [109, 97, 116, 99, 104, 32] ++ s0 ++ [32, 119, 105, 116, 104, 32] ++ [115, 111, 109, 101, 32] ++ t ++ [32, 45, 62, 32] ++ s2 ++ [41]).toArray⟩, .bool ((k1 == 3 && isNameB t))]) ∧ Below w.heap.size w w' := by
  obtain ⟨c0, c1, c2, kl, l0, l1, l2⟩ := K
  have HN : Hid (∀ W : World, Calls Tryz.prog 27 #[.string ⟨t.toArray⟩] W fun e w' => e = .returned (.bool (isNameB t)) ∧ w' = W) := fun W => refIsName_any ⟨t.toArray⟩ W (by rw [Lib.size_eq]; exact Nat.le_trans ht (by omega))

  by_cases d : k1 = 3
  · subst d
    generalize isNameB t = q at *
    go_enter Tryz.func63, Tryz.ntmps63
    go_wp2_with fail
    go_quiet ((go_at_call 27; exact Calls.quiet_of_same (HN.out _)))
    go_wp2_with fail
    go_ret2
    exact ⟨ret_pair (by simp only [bapp]; rfl) (by simp), bdn (ba (Below.refl _ _))⟩
  · have d' : (k1 == 3) = false := by rw [beq_eq_false_iff_ne]; exact d
    clear d
    go_enter Tryz.func63, Tryz.ntmps63
    go_wp2_with fail
    go_quiet ((go_at_call 27; exact Calls.quiet_of_same (HN.out _)))
    go_wp2_with fail
    go_ret2
    exact ⟨ret_pair (by simp only [bapp]; rfl) (by rw [d']; rfl), bdn (ba (Below.refl _ _))⟩

set_option maxHeartbeats 4000000 in
theorem refArms_3 (t o : List UInt8) (p : Int) (b off cp kb kcp : Nat) (s0 s1 s2 : List UInt8)  (w : World) (K : Txt3 w kb s0 s1 s2) (ht : t.length ≤ 100) :
    Calls Tryz.prog 63 #[.agg #[.int .i64 24, .string ⟨t.toArray⟩, .string ⟨o.toArray⟩, .int .i64 3, .int .i64 p, .slice (some ⟨b, off, none⟩) 3 cp], .slice (some ⟨kb, 0, none⟩) 3 kcp] w fun e w' => e = .returned (.tuple #[.string ⟨([40] ++ [109, 97, 116, 99, 104, 32] ++ s0 ++ [32, 119, 105, 116, 104, 32] ++ [110, 111, 110, 101, 32, 45, 62, 32] ++ s1 ++ [32, 124, 32, 115, 111, 109, 101, 32] ++ t ++ [32, 45, 62, 32] ++ s2 ++ [41]).toArray⟩, .bool (isNameB t)]) ∧ Below w.heap.size w w' := by
  obtain ⟨c0, c1, c2, kl, l0, l1, l2⟩ := K
  have HN : Hid (∀ W : World, Calls Tryz.prog 27 #[.string ⟨t.toArray⟩] W fun e w' => e = .returned (.bool (isNameB t)) ∧ w' = W) := fun W => refIsName_any ⟨t.toArray⟩ W (by rw [Lib.size_eq]; exact Nat.le_trans ht (by omega))

  generalize isNameB t = q at *
  go_enter Tryz.func63, Tryz.ntmps63
  go_wp2_with fail
  go_quiet ((go_at_call 27; exact Calls.quiet_of_same (HN.out _)))
  go_wp2_with fail
  go_ret2
  exact ⟨ret_pair (by simp only [bapp]; rfl) (rfl), bdn (ba (Below.refl _ _))⟩

set_option maxHeartbeats 4000000 in
theorem refArms_no (n : Int) (t o : List UInt8) (p : Int) (b off cp kb kcp : Nat) (s0 s1 s2 : List UInt8) (w : World) (K : Txt3 w kb s0 s1 s2) (h1 : n ≠ 1) (h2 : n ≠ 2) (h3 : n ≠ 3) :
    Calls Tryz.prog 63 #[.agg #[.int .i64 24, .string ⟨t.toArray⟩, .string ⟨o.toArray⟩, .int .i64 n, .int .i64 p, .slice (some ⟨b, off, none⟩) 3 cp], .slice (some ⟨kb, 0, none⟩) 3 kcp] w fun e w' => e = .returned (.tuple #[.string ⟨#[]⟩, .bool false]) ∧ Below w.heap.size w w' := by
  obtain ⟨c0, c1, c2, kl, l0, l1, l2⟩ := K
  have q1 : (n == 1) = false := by rw [beq_eq_false_iff_ne]; exact h1
  have q2 : (n == 2) = false := by rw [beq_eq_false_iff_ne]; exact h2
  have q3 : (n == 3) = false := by rw [beq_eq_false_iff_ne]; exact h3
  clear h1 h2 h3
  go_enter Tryz.func63, Tryz.ntmps63
  go_wp2_with fail
  go_ret2
  exact ⟨rfl, ba (Below.refl _ _)⟩
/-- Is an arm's node right, beyond what is asked of each kind? -/
def ok24 (n k1 k2 : Int) (t : List UInt8) : Bool := (n == 1 && (k2 == 3 && t == [])) || (n == 2 && (k1 == 3 && isNameB t)) || (n == 3 && isNameB t)
def ArmsR (t o : List UInt8) (n k1 k2 : Int) (s0 s1 s2 : List UInt8) (e : Ending) : Prop :=
  ∃ (s : List UInt8) (b : Bool), e = .returned (.tuple #[.string ⟨s.toArray⟩, .bool b]) ∧ b = ok24 n k1 k2 t ∧ (b = true → s = weave (pcs 24 t o n) (pick3 24 n [s0, s1, s2])) ∧ s.length ≤ t.length + s0.length + s1.length + s2.length + 60
theorem refArms_any (n : Int) (t o : List UInt8) (p : Int) (b off cp kb kcp : Nat) (s0 s1 s2 : List UInt8) (k1 k2 : Int) (w : World) (K : Txt3 w kb s0 s1 s2) (bl : b < w.heap.size) (z1 : w.cell? ⟨b, off + 6, none⟩ = some (.int .i64 k1)) (z2 : w.cell? ⟨b, off + 12, none⟩ = some (.int .i64 k2)) (ht : t.length ≤ 100) : Calls Tryz.prog 63 #[.agg #[.int .i64 24, .string ⟨t.toArray⟩, .string ⟨o.toArray⟩, .int .i64 n, .int .i64 p, .slice (some ⟨b, off, none⟩) 3 cp], .slice (some ⟨kb, 0, none⟩) 3 kcp] w fun e w' => ArmsR t o n k1 k2 s0 s1 s2 e ∧ Below w.heap.size w w' := by
  by_cases h1 : n = 1
  · subst h1
    refine (refArms_1 t o p b off cp kb kcp s0 s1 s2 k2 w K bl z2 ht).mono ?_
    rintro e w' ⟨rfl, hb⟩
    exact ⟨⟨_, _, rfl, by simp [ok24], fun _ => by simp [weave, wv, pcs, pick3], by simp; omega⟩, hb⟩
  by_cases h2 : n = 2
  · subst h2
    refine (refArms_2 t o p b off cp kb kcp s0 s1 s2 k1 w K bl z1 ht).mono ?_
    rintro e w' ⟨rfl, hb⟩
    exact ⟨⟨_, _, rfl, by simp [ok24], fun _ => by simp [weave, wv, pcs, pick3], by simp; omega⟩, hb⟩
  by_cases h3 : n = 3
  · subst h3
    refine (refArms_3 t o p b off cp kb kcp s0 s1 s2 w K ht).mono ?_
    rintro e w' ⟨rfl, hb⟩
    exact ⟨⟨_, _, rfl, by simp [ok24], fun _ => by simp [weave, wv, pcs, pick3], by simp; omega⟩, hb⟩
  refine (refArms_no n t o p b off cp kb kcp s0 s1 s2 w K h1 h2 h3).mono ?_
  rintro e w' ⟨rfl, hb⟩
  exact ⟨⟨[], _, rfl, by simp [ok24, h1, h2, h3], fun h => absurd h (by decide), by simp⟩, hb⟩
end Go.Proofs.YtkljakeccfnakaaGreatDoor
