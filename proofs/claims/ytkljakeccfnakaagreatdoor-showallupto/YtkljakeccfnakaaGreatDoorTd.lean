/-
  The walks of the program's tests of one node: its kids' number, its text, its other text, its number, its arms; of a declaration.
  The walks of the program's tests of a whole expression, of declarations and of a program.
  The walk of the program's test of a whole expression.
-/
import Derived.Test.YtkljakeccfnakaaGreatDoorTb
namespace Go.Proofs.YtkljakeccfnakaaGreatDoor
open Go.RowKit

theorem out25 {k : Int} (h : ¬ (1 ≤ k ∧ k ≤ 25)) : (k == 1) = false ∧ (k == 2) = false ∧ (k == 3) = false ∧ (k == 4) = false ∧ (k == 5) = false ∧ (k == 6) = false ∧ (k == 7) = false ∧ (k == 8) = false ∧ (k == 9) = false ∧ (k == 10) = false ∧ (k == 11) = false ∧ (k == 12) = false ∧ (k == 13) = false ∧ (k == 14) = false ∧ (k == 15) = false ∧ (k == 16) = false ∧ (k == 17) = false ∧ (k == 18) = false ∧ (k == 19) = false ∧ (k == 20) = false ∧ (k == 21) = false ∧ (k == 22) = false ∧ (k == 23) = false ∧ (k == 24) = false ∧ (k == 25) = false := by
  simp only [beq_eq_false_iff_ne]; omega

set_option maxHeartbeats 8000000 in
theorem kidsOf_any (k : Int) (w : World) : Calls Tryz.prog 65 #[.int .i64 k] w fun e w' => e = .returned (.int .i64 (kidsN k)) ∧ w' = w := by
  by_cases h : 1 ≤ k ∧ k ≤ 25
  · rcases kinds25 h.1 h.2 with rfl | rfl | rfl | rfl | rfl | rfl | rfl | rfl | rfl | rfl | rfl | rfl | rfl | rfl | rfl | rfl | rfl | rfl | rfl | rfl | rfl | rfl | rfl | rfl | rfl
    all_goals
      clear h
      go_enter Tryz.func65, Tryz.ntmps65
      go_wp2
      go_ret
      exact ⟨rfl, rfl⟩
  · have e : kidsN k = -1 := kidsN_out (by omega)
    rw [e]
    obtain ⟨h1, h2, h3, h4, h5, h6, h7, h8, h9, h10, h11, h12, h13, h14, h15, h16, h17, h18, h19, h20, h21, h22, h23, h24, h25⟩ := out25 h
    clear h e
    go_enter Tryz.func65, Tryz.ntmps65
    go_wp2
    go_ret
    exact ⟨rfl, rfl⟩
set_option maxHeartbeats 8000000 in
theorem textFits_any (k : Int) (t o : List UInt8) (n p : Int) (a : Option Addr) (ln cp : Nat) (w : World) (ht : t.length ≤ 140737488351232) :
    Calls Tryz.prog 66 #[.agg #[.int .i64 k, .string ⟨t.toArray⟩, .string ⟨o.toArray⟩, .int .i64 n, .int .i64 p, .slice a ln cp]] w fun e w' => e = .returned (.bool (textB k t n)) ∧ Below w.heap.size w w' := by
  have HN : Hid (∀ W, Calls Tryz.prog 64 #[.string ⟨t.toArray⟩] W fun e w' => e = .returned (.bool (isNameB t)) ∧ w' = W) := fun W => isName_any ⟨t.toArray⟩ W (by rw [Lib.size_eq]; exact ht)
  clear ht
  by_cases h : 1 ≤ k ∧ k ≤ 25
  · by_cases c24 : k = 24
    · subst c24
      clear h
      by_cases c1 : n = 1
      · subst c1
        cases c : t with
        | nil =>
          go_enter Tryz.func66, Tryz.ntmps66
          go_wp2
          go_ret
          exact ⟨rfl, ba (Below.refl _ _)⟩
        | cons x r =>
          have q : ((⟨(x :: r).toArray⟩ : ByteArray).toList == []) = false := by rw [Lib.toList_data]; rfl
          go_enter Tryz.func66, Tryz.ntmps66
          go_wp2
          go_ret
          exact ⟨rfl, ba (Below.refl _ _)⟩
      · have q : (n != 1) = true := by rw [bne_iff_ne]; exact c1
        have E : Hid (textB 24 t n = isNameB t) := by show _ = _; unfold textB; rw [if_neg (by decide), if_neg (by decide), q]; rfl
        go_enter Tryz.func66, Tryz.ntmps66
        go_wp2_with (go_at_call 64; refine (HN.out _).mono ?_; rintro e w' ⟨rfl, rfl⟩)
        go_ret
        exact ⟨ret_bool E.out.symm, ba (Below.refl _ _)⟩
    · rcases kinds25 h.1 h.2 with rfl | rfl | rfl | rfl | rfl | rfl | rfl | rfl | rfl | rfl | rfl | rfl | rfl | rfl | rfl | rfl | rfl | rfl | rfl | rfl | rfl | rfl | rfl | rfl | rfl
      · clear h c24
        cases c : t with
        | nil =>
          go_enter Tryz.func66, Tryz.ntmps66
          go_wp2_with fail
          go_ret
          exact ⟨rfl, ba (Below.refl _ _)⟩
        | cons x r =>
          have q : ((⟨(x :: r).toArray⟩ : ByteArray).toList == []) = false := by rw [Lib.toList_data]; rfl
          go_enter Tryz.func66, Tryz.ntmps66
          go_wp2_with fail
          go_ret
          exact ⟨rfl, ba (Below.refl _ _)⟩
      · clear h c24
        cases c : t with
        | nil =>
          go_enter Tryz.func66, Tryz.ntmps66
          go_wp2_with fail
          go_ret
          exact ⟨rfl, ba (Below.refl _ _)⟩
        | cons x r =>
          have q : ((⟨(x :: r).toArray⟩ : ByteArray).toList == []) = false := by rw [Lib.toList_data]; rfl
          go_enter Tryz.func66, Tryz.ntmps66
          go_wp2_with fail
          go_ret
          exact ⟨rfl, ba (Below.refl _ _)⟩
      · clear h c24
        cases c : t with
        | nil =>
          go_enter Tryz.func66, Tryz.ntmps66
          go_wp2_with fail
          go_ret
          exact ⟨rfl, ba (Below.refl _ _)⟩
        | cons x r =>
          have q : ((⟨(x :: r).toArray⟩ : ByteArray).toList == []) = false := by rw [Lib.toList_data]; rfl
          go_enter Tryz.func66, Tryz.ntmps66
          go_wp2_with fail
          go_ret
          exact ⟨rfl, ba (Below.refl _ _)⟩
      · clear h c24
        go_enter Tryz.func66, Tryz.ntmps66
        go_wp2_with (go_at_call 64; refine (HN.out _).mono ?_; rintro e w' ⟨rfl, rfl⟩)
        go_ret
        exact ⟨rfl, ba (Below.refl _ _)⟩
      · clear h c24
        go_enter Tryz.func66, Tryz.ntmps66
        go_wp2_with (go_at_call 64; refine (HN.out _).mono ?_; rintro e w' ⟨rfl, rfl⟩)
        go_ret
        exact ⟨rfl, ba (Below.refl _ _)⟩
      · clear h c24
        cases c : t with
        | nil =>
          go_enter Tryz.func66, Tryz.ntmps66
          go_wp2_with fail
          go_ret
          exact ⟨rfl, ba (Below.refl _ _)⟩
        | cons x r =>
          have q : ((⟨(x :: r).toArray⟩ : ByteArray).toList == []) = false := by rw [Lib.toList_data]; rfl
          go_enter Tryz.func66, Tryz.ntmps66
          go_wp2_with fail
          go_ret
          exact ⟨rfl, ba (Below.refl _ _)⟩
      · clear h c24
        go_enter Tryz.func66, Tryz.ntmps66
        go_wp2_with (go_at_call 64; refine (HN.out _).mono ?_; rintro e w' ⟨rfl, rfl⟩)
        go_ret
        exact ⟨rfl, ba (Below.refl _ _)⟩
      · clear h c24
        cases c : t with
        | nil =>
          go_enter Tryz.func66, Tryz.ntmps66
          go_wp2_with fail
          go_ret
          exact ⟨rfl, ba (Below.refl _ _)⟩
        | cons x r =>
          have q : ((⟨(x :: r).toArray⟩ : ByteArray).toList == []) = false := by rw [Lib.toList_data]; rfl
          go_enter Tryz.func66, Tryz.ntmps66
          go_wp2_with fail
          go_ret
          exact ⟨rfl, ba (Below.refl _ _)⟩
      · clear h c24
        cases c : t with
        | nil =>
          go_enter Tryz.func66, Tryz.ntmps66
          go_wp2_with fail
          go_ret
          exact ⟨rfl, ba (Below.refl _ _)⟩
        | cons x r =>
          have q : ((⟨(x :: r).toArray⟩ : ByteArray).toList == []) = false := by rw [Lib.toList_data]; rfl
          go_enter Tryz.func66, Tryz.ntmps66
          go_wp2_with fail
          go_ret
          exact ⟨rfl, ba (Below.refl _ _)⟩
      · clear h c24
        go_enter Tryz.func66, Tryz.ntmps66
        go_wp2_with (go_at_call 64; refine (HN.out _).mono ?_; rintro e w' ⟨rfl, rfl⟩)
        go_ret
        exact ⟨rfl, ba (Below.refl _ _)⟩
      · clear h c24
        go_enter Tryz.func66, Tryz.ntmps66
        go_wp2_with (go_at_call 64; refine (HN.out _).mono ?_; rintro e w' ⟨rfl, rfl⟩)
        go_ret
        exact ⟨rfl, ba (Below.refl _ _)⟩
      · clear h c24
        go_enter Tryz.func66, Tryz.ntmps66
        go_wp2_with (go_at_call 64; refine (HN.out _).mono ?_; rintro e w' ⟨rfl, rfl⟩)
        go_ret
        exact ⟨rfl, ba (Below.refl _ _)⟩
      · clear h c24
        go_enter Tryz.func66, Tryz.ntmps66
        go_wp2_with (go_at_call 64; refine (HN.out _).mono ?_; rintro e w' ⟨rfl, rfl⟩)
        go_ret
        exact ⟨rfl, ba (Below.refl _ _)⟩
      · clear h c24
        go_enter Tryz.func66, Tryz.ntmps66
        go_wp2_with (go_at_call 64; refine (HN.out _).mono ?_; rintro e w' ⟨rfl, rfl⟩)
        go_ret
        exact ⟨rfl, ba (Below.refl _ _)⟩
      · clear h c24
        go_enter Tryz.func66, Tryz.ntmps66
        go_wp2_with (go_at_call 64; refine (HN.out _).mono ?_; rintro e w' ⟨rfl, rfl⟩)
        go_ret
        exact ⟨rfl, ba (Below.refl _ _)⟩
      · clear h c24
        go_enter Tryz.func66, Tryz.ntmps66
        go_wp2_with (go_at_call 64; refine (HN.out _).mono ?_; rintro e w' ⟨rfl, rfl⟩)
        go_ret
        exact ⟨rfl, ba (Below.refl _ _)⟩
      · clear h c24
        cases c : t with
        | nil =>
          go_enter Tryz.func66, Tryz.ntmps66
          go_wp2_with fail
          go_ret
          exact ⟨rfl, ba (Below.refl _ _)⟩
        | cons x r =>
          have q : ((⟨(x :: r).toArray⟩ : ByteArray).toList == []) = false := by rw [Lib.toList_data]; rfl
          go_enter Tryz.func66, Tryz.ntmps66
          go_wp2_with fail
          go_ret
          exact ⟨rfl, ba (Below.refl _ _)⟩
      · clear h c24
        cases c : t with
        | nil =>
          go_enter Tryz.func66, Tryz.ntmps66
          go_wp2_with fail
          go_ret
          exact ⟨rfl, ba (Below.refl _ _)⟩
        | cons x r =>
          have q : ((⟨(x :: r).toArray⟩ : ByteArray).toList == []) = false := by rw [Lib.toList_data]; rfl
          go_enter Tryz.func66, Tryz.ntmps66
          go_wp2_with fail
          go_ret
          exact ⟨rfl, ba (Below.refl _ _)⟩
      · clear h c24
        cases c : t with
        | nil =>
          go_enter Tryz.func66, Tryz.ntmps66
          go_wp2_with fail
          go_ret
          exact ⟨rfl, ba (Below.refl _ _)⟩
        | cons x r =>
          have q : ((⟨(x :: r).toArray⟩ : ByteArray).toList == []) = false := by rw [Lib.toList_data]; rfl
          go_enter Tryz.func66, Tryz.ntmps66
          go_wp2_with fail
          go_ret
          exact ⟨rfl, ba (Below.refl _ _)⟩
      · clear h c24
        cases c : t with
        | nil =>
          go_enter Tryz.func66, Tryz.ntmps66
          go_wp2_with fail
          go_ret
          exact ⟨rfl, ba (Below.refl _ _)⟩
        | cons x r =>
          have q : ((⟨(x :: r).toArray⟩ : ByteArray).toList == []) = false := by rw [Lib.toList_data]; rfl
          go_enter Tryz.func66, Tryz.ntmps66
          go_wp2_with fail
          go_ret
          exact ⟨rfl, ba (Below.refl _ _)⟩
      · clear h c24
        by_cases c1 : t = [43]
        · subst c1
          go_enter Tryz.func66, Tryz.ntmps66
          go_wp2_with fail
          go_ret
          exact ⟨rfl, ba (Below.refl _ _)⟩
        by_cases c2 : t = [45]
        · subst c2
          go_enter Tryz.func66, Tryz.ntmps66
          go_wp2_with fail
          go_ret
          exact ⟨rfl, ba (Below.refl _ _)⟩
        by_cases c3 : t = [42]
        · subst c3
          go_enter Tryz.func66, Tryz.ntmps66
          go_wp2_with fail
          go_ret
          exact ⟨rfl, ba (Below.refl _ _)⟩
        by_cases c4 : t = [47]
        · subst c4
          go_enter Tryz.func66, Tryz.ntmps66
          go_wp2_with fail
          go_ret
          exact ⟨rfl, ba (Below.refl _ _)⟩
        have E : Hid (textB 21 t n = false) := by
          show _ = _
          unfold textB opB
          rw [if_neg (by decide), if_pos (by decide), ← Bool.not_eq_true, List.contains_iff_mem]
          simp [c1, c2, c3, c4]
        go_enter Tryz.func66, Tryz.ntmps66
        go_wp2_with fail
        go_ret
        exact ⟨ret_bool (by rw [E.out]; simp [c1, c2, c3, c4]), ba (Below.refl _ _)⟩
      · clear h c24
        cases c : t with
        | nil =>
          go_enter Tryz.func66, Tryz.ntmps66
          go_wp2_with fail
          go_ret
          exact ⟨rfl, ba (Below.refl _ _)⟩
        | cons x r =>
          have q : ((⟨(x :: r).toArray⟩ : ByteArray).toList == []) = false := by rw [Lib.toList_data]; rfl
          go_enter Tryz.func66, Tryz.ntmps66
          go_wp2_with fail
          go_ret
          exact ⟨rfl, ba (Below.refl _ _)⟩
      · clear h c24
        cases c : t with
        | nil =>
          go_enter Tryz.func66, Tryz.ntmps66
          go_wp2_with fail
          go_ret
          exact ⟨rfl, ba (Below.refl _ _)⟩
        | cons x r =>
          have q : ((⟨(x :: r).toArray⟩ : ByteArray).toList == []) = false := by rw [Lib.toList_data]; rfl
          go_enter Tryz.func66, Tryz.ntmps66
          go_wp2_with fail
          go_ret
          exact ⟨rfl, ba (Below.refl _ _)⟩
      · exact absurd rfl c24
      · clear h c24
        go_enter Tryz.func66, Tryz.ntmps66
        go_wp2_with (go_at_call 64; refine (HN.out _).mono ?_; rintro e w' ⟨rfl, rfl⟩)
        go_ret
        exact ⟨rfl, ba (Below.refl _ _)⟩
  · have E : Hid (textB k t n = (t == [])) := by
      show _ = _
      unfold textB usesB
      rw [if_neg (by rw [Bool.not_eq_true, ← Bool.not_eq_true, List.contains_iff_mem]; simp only [List.mem_cons, List.not_mem_nil, or_false]; omega), if_neg (by rw [beq_iff_eq]; omega), if_neg (by simp only [Bool.and_eq_true, beq_iff_eq]; omega)]
    obtain ⟨h1, h2, h3, h4, h5, h6, h7, h8, h9, h10, h11, h12, h13, h14, h15, h16, h17, h18, h19, h20, h21, h22, h23, h24, h25⟩ := out25 h
    clear h
    cases c : t with
    | nil =>
      rw [c] at E
      go_enter Tryz.func66, Tryz.ntmps66
      go_wp2_with fail
      go_ret
      exact ⟨ret_bool E.out.symm, ba (Below.refl _ _)⟩
    | cons x r =>
      rw [c] at E
      have q : ((⟨(x :: r).toArray⟩ : ByteArray).toList == []) = false := by rw [Lib.toList_data]; rfl
      go_enter Tryz.func66, Tryz.ntmps66
      go_wp2_with fail
      go_ret
      exact ⟨ret_bool E.out.symm, ba (Below.refl _ _)⟩
set_option maxHeartbeats 4000000 in
theorem otherFits_any (k : Int) (t o : List UInt8) (n p : Int) (a : Option Addr) (ln cp : Nat) (w : World) (ho : o.length ≤ 140737488351232) :
    Calls Tryz.prog 67 #[.agg #[.int .i64 k, .string ⟨t.toArray⟩, .string ⟨o.toArray⟩, .int .i64 n, .int .i64 p, .slice a ln cp]] w fun e w' => e = .returned (.bool (otherB k o)) ∧ Below w.heap.size w w' := by
  have HN : Hid (∀ W, Calls Tryz.prog 64 #[.string ⟨o.toArray⟩] W fun e w' => e = .returned (.bool (isNameB o)) ∧ w' = W) := fun W => isName_any ⟨o.toArray⟩ W (by rw [Lib.size_eq]; exact ho)
  clear ho
  by_cases h : k = 25
  · subst h
    go_enter Tryz.func67, Tryz.ntmps67
    go_wp2_with (go_at_call 64; refine (HN.out _).mono ?_; rintro e w' ⟨rfl, rfl⟩)
    go_ret
    exact ⟨rfl, ba (Below.refl _ _)⟩
  · have q0 : (k == 25) = false := by rw [beq_eq_false_iff_ne]; exact h
    have E : Hid (otherB k o = (o == [])) := by show _ = _; unfold otherB; rw [q0]; rfl
    clear h
    cases c : o with
    | nil =>
      rw [c] at E
      go_enter Tryz.func67, Tryz.ntmps67
      go_wp2_with fail
      go_ret
      exact ⟨ret_bool E.out.symm, ba (Below.refl _ _)⟩
    | cons x r =>
      rw [c] at E
      have q : ((⟨(x :: r).toArray⟩ : ByteArray).toList == []) = false := by rw [Lib.toList_data]; rfl
      go_enter Tryz.func67, Tryz.ntmps67
      go_wp2_with fail
      go_ret
      exact ⟨ret_bool E.out.symm, ba (Below.refl _ _)⟩
set_option maxHeartbeats 4000000 in
theorem numberFits_any (k : Int) (t o : List UInt8) (n p : Int) (a : Option Addr) (ln cp : Nat) (w : World) :
    Calls Tryz.prog 68 #[.agg #[.int .i64 k, .string ⟨t.toArray⟩, .string ⟨o.toArray⟩, .int .i64 n, .int .i64 p, .slice a ln cp]] w fun e w' => e = .returned (.bool (numB k n)) ∧ Below w.heap.size w w' := by
  by_cases k1 : k = 1
  · subst k1
    by_cases c1 : 0 ≤ n
    · by_cases c2 : n ≤ 999999999
      · have E : Hid (numB 1 n = true) := by show _ = _; unfold numB; simp [c1, c2]
        go_enter Tryz.func68, Tryz.ntmps68
        go_wp2_with fail
        go_ret
        exact ⟨ret_bool E.out.symm, ba (Below.refl _ _)⟩
      · have E : Hid (numB 1 n = false) := by show _ = _; unfold numB; simp [c2]
        go_enter Tryz.func68, Tryz.ntmps68
        go_wp2_with fail
        go_ret
        exact ⟨ret_bool E.out.symm, ba (Below.refl _ _)⟩
    · have E : Hid (numB 1 n = false) := by show _ = _; unfold numB; simp [c1]
      go_enter Tryz.func68, Tryz.ntmps68
      go_wp2_with fail
      go_ret
      exact ⟨ret_bool E.out.symm, ba (Below.refl _ _)⟩
  by_cases k2 : k = 2
  · subst k2
    clear k1
    by_cases c1 : n = 0
    · subst c1
      go_enter Tryz.func68, Tryz.ntmps68
      go_wp2_with fail
      go_ret
      exact ⟨rfl, ba (Below.refl _ _)⟩
    · have q1 : (n == 0) = false := by rw [beq_eq_false_iff_ne]; exact c1
      by_cases c2 : n = 1
      · subst c2
        clear q1 c1
        go_enter Tryz.func68, Tryz.ntmps68
        go_wp2_with fail
        go_ret
        exact ⟨rfl, ba (Below.refl _ _)⟩
      · have q2 : (n == 1) = false := by rw [beq_eq_false_iff_ne]; exact c2
        have E : Hid (numB 2 n = false) := by show _ = _; unfold numB; simp [c1, c2]
        clear c1 c2
        go_enter Tryz.func68, Tryz.ntmps68
        go_wp2_with fail
        go_ret
        exact ⟨ret_bool E.out.symm, ba (Below.refl _ _)⟩
  have q1 : (k == 1) = false := by rw [beq_eq_false_iff_ne]; exact k1
  have q2 : (k == 2) = false := by rw [beq_eq_false_iff_ne]; exact k2
  by_cases k24 : k = 24
  · subst k24
    clear k1 k2 q1 q2
    by_cases c1 : 1 ≤ n
    · by_cases c2 : n ≤ 3
      · have E : Hid (numB 24 n = true) := by show _ = _; unfold numB; simp [c1, c2]
        go_enter Tryz.func68, Tryz.ntmps68
        go_wp2_with fail
        go_ret
        exact ⟨ret_bool E.out.symm, ba (Below.refl _ _)⟩
      · have E : Hid (numB 24 n = false) := by show _ = _; unfold numB; simp [c2]
        go_enter Tryz.func68, Tryz.ntmps68
        go_wp2_with fail
        go_ret
        exact ⟨ret_bool E.out.symm, ba (Below.refl _ _)⟩
    · have E : Hid (numB 24 n = false) := by show _ = _; unfold numB; simp [c1]
      go_enter Tryz.func68, Tryz.ntmps68
      go_wp2_with fail
      go_ret
      exact ⟨ret_bool E.out.symm, ba (Below.refl _ _)⟩
  have q3 : (k == 24) = false := by rw [beq_eq_false_iff_ne]; exact k24
  have E : Hid (numB k n = (n == 0)) := by show _ = _; unfold numB; rw [q1, q2, q3]; rfl
  clear k1 k2 k24
  by_cases c1 : n = 0
  · subst c1
    go_enter Tryz.func68, Tryz.ntmps68
    go_wp2_with fail
    go_ret
    exact ⟨ret_bool E.out.symm, ba (Below.refl _ _)⟩
  · have q4 : (n == 0) = false := by rw [beq_eq_false_iff_ne]; exact c1
    clear c1
    go_enter Tryz.func68, Tryz.ntmps68
    go_wp2_with fail
    go_ret
    exact ⟨ret_bool (by rw [E.out, q4]), ba (Below.refl _ _)⟩
end Go.Proofs.YtkljakeccfnakaaGreatDoor

namespace Go.Proofs.YtkljakeccfnakaaGreatDoor
open Go.RowKit

/-- The kind of the kid number j, in memory. -/
theorem Row.kind {hi : Nat} {w : World} {b off : Nat} {l : List Px} (h : Row hi w b off l) {j : Nat} (hj : j < l.length) : w.cell? ⟨b, off + j * 6, none⟩ = some (.int .i64 (kindAt l j)) := by
  obtain ⟨a, cp, ⟨h0, -⟩, -⟩ := h.2 j l[j] (List.getElem?_eq_getElem hj)
  rw [h0]
  unfold kindAt
  rw [List.getD_eq_getElem?_getD, List.getElem?_eq_getElem hj]
  rfl

set_option maxHeartbeats 4000000 in
theorem armsFit_any (k : Int) (t o : List UInt8) (n p : Int) (b off cp : Nat) (l : List Px) (hi : Nat) (w : World) (hr : k = 24 → Row hi w b off l) (hhi : hi ≤ w.heap.size) (hl : l.length = 3 ∨ k ≠ 24) :
    Calls Tryz.prog 69 #[.agg #[.int .i64 k, .string ⟨t.toArray⟩, .string ⟨o.toArray⟩, .int .i64 n, .int .i64 p, .slice (some ⟨b, off, none⟩) l.length cp]] w fun e w' => e = .returned (.bool (armsB k n l)) ∧ Below w.heap.size w w' := by
  by_cases h : k = 24
  · subst h
    have hr := hr rfl
    have hl3 : l.length = 3 := by rcases hl with h | h; exact h; exact absurd rfl h
    have z1 := hr.kind (j := 1) (by omega)
    have z2 := hr.kind (j := 2) (by omega)
    rw [show off + 1 * 6 = off + 6 by omega] at z1
    rw [show off + 2 * 6 = off + 12 by omega] at z2
    have bl : b < w.heap.size := Nat.lt_of_lt_of_le hr.1 hhi
    have E : Hid (armsB 24 n l = ((n != 2 || kindAt l 1 == 3) && (n != 1 || kindAt l 2 == 3))) := rfl
    rw [hl3]
    generalize kindAt l 1 = k1 at *
    generalize kindAt l 2 = k2 at *
    clear hr hl hl3
    by_cases c1 : n = 2
    · subst c1
      by_cases d : k1 = 3
      · subst d
        go_enter Tryz.func69, Tryz.ntmps69
        go_wp2_with fail
        go_ret
        exact ⟨ret_bool (by rw [E.out]; simp), ba (Below.refl _ _)⟩
      · go_enter Tryz.func69, Tryz.ntmps69
        go_wp2_with fail
        go_ret
        exact ⟨ret_bool (by rw [E.out]; simp [d]), ba (Below.refl _ _)⟩
    · have q1 : (n != 2) = true := by rw [bne_iff_ne]; exact c1
      by_cases c2 : n = 1
      · subst c2
        clear c1 q1
        by_cases d : k2 = 3
        · subst d
          go_enter Tryz.func69, Tryz.ntmps69
          go_wp2_with fail
          go_ret
          exact ⟨ret_bool (by rw [E.out]; simp), ba (Below.refl _ _)⟩
        · go_enter Tryz.func69, Tryz.ntmps69
          go_wp2_with fail
          go_ret
          exact ⟨ret_bool (by rw [E.out]; simp), ba (Below.refl _ _)⟩
      · have q2 : (n != 1) = true := by rw [bne_iff_ne]; exact c2
        go_enter Tryz.func69, Tryz.ntmps69
        go_wp2_with fail
        go_ret
        exact ⟨ret_bool (by rw [E.out, q1, q2]; rfl), ba (Below.refl _ _)⟩
  · have q0 : (k != 24) = true := by rw [bne_iff_ne]; exact h
    have E : Hid (armsB k n l = true) := by show _ = _; unfold armsB; rw [q0]; rfl
    clear hl hr
    generalize l.length = ln at *
    go_enter Tryz.func69, Tryz.ntmps69
    go_wp2_with fail
    go_ret
    exact ⟨ret_bool E.out.symm, ba (Below.refl _ _)⟩
theorem armsFit_leaf (k : Int) (t o : List UInt8) (n p : Int) (a : Option Addr) (ln cp : Nat) (w : World) (h : k ≠ 24) :
    Calls Tryz.prog 69 #[.agg #[.int .i64 k, .string ⟨t.toArray⟩, .string ⟨o.toArray⟩, .int .i64 n, .int .i64 p, .slice a ln cp]] w fun e w' => e = .returned (.bool true) ∧ Below w.heap.size w w' := by
  have q0 : (k != 24) = true := by rw [bne_iff_ne]; exact h
  go_enter Tryz.func69, Tryz.ntmps69
  go_wp2_with fail
  go_ret
  exact ⟨rfl, ba (Below.refl _ _)⟩
/-- What is asked of one node, of the value V. -/
structure NodeK (w : World) (V : Value) (x : Px) : Prop where
  kids : ∀ W : World, Calls Tryz.prog 65 #[.int .i64 x.kind] W fun e w' => e = .returned (.int .i64 (kidsN x.kind)) ∧ Below W.heap.size W w'
  text : ∀ W : World, Calls Tryz.prog 66 #[V] W fun e w' => e = .returned (.bool (textB x.kind x.text x.n)) ∧ Below W.heap.size W w'
  other : ∀ W : World, Calls Tryz.prog 67 #[V] W fun e w' => e = .returned (.bool (otherB x.kind x.other)) ∧ Below W.heap.size W w'
  num : ∀ W : World, Calls Tryz.prog 68 #[V] W fun e w' => e = .returned (.bool (numB x.kind x.n)) ∧ Below W.heap.size W w'
  arms : (x.kids.length : Int) = kidsN x.kind → ∀ W : World, Below w.heap.size w W → Calls Tryz.prog 69 #[V] W fun e w' => e = .returned (.bool (armsB x.kind x.n x.kids)) ∧ Below W.heap.size W w'
theorem kidsN_24 : kidsN 24 = 3 := rfl
theorem nodeK_of {hi : Nat} {w : World} {x : Px} {a : Option Addr} {cap : Nat} (h : PxV hi w (pv x a cap) x) (hhi : hi ≤ w.heap.size) : NodeK w (pv x a cap) x := by
  obtain ⟨a1, c1, e1, _, _, ht, ho⟩ := h.form
  refine ⟨fun W => (kidsOf_any x.kind W).mono fun e w' ⟨he, hw⟩ => ⟨he, by rw [hw]; exact Below.refl _ _⟩, fun W => textFits_any _ _ _ _ _ _ _ _ W ht, fun W => otherFits_any _ _ _ _ _ _ _ _ W ho, fun W => numberFits_any _ _ _ _ _ _ _ _ W, fun hk W hW => ?_⟩
  obtain ⟨a2, c2, e2, hcap, hlen, hab⟩ := h.row
  simp only [pv, Value.agg.injEq, Array.mk.injEq, List.cons.injEq, Value.slice.injEq, and_true, true_and] at e2
  obtain ⟨rfl, rfl⟩ := e2
  rcases hab with h0 | ⟨b, off, rfl, hR⟩
  · have h24 : x.kind ≠ 24 := fun e => by rw [e, kidsN_24, h0] at hk; simp at hk
    have E : armsB x.kind x.n x.kids = true := by unfold armsB; rw [show (x.kind != 24) = true by rw [bne_iff_ne]; exact h24]; rfl
    rw [E]
    exact armsFit_leaf _ _ _ _ _ _ _ _ W h24
  · refine armsFit_any _ _ _ _ _ _ _ _ x.kids hi W (fun _ => hR.keep (hW.mono hhi)) (Nat.le_trans hhi hW.size) ?_
    by_cases h24 : x.kind = 24
    · left; rw [h24, kidsN_24] at hk; omega
    · exact Or.inr h24
theorem formB_zero (x : Px) : formB 0 x = false := by
  unfold formB
  have := deepX_pos x
  rw [decide_eq_false (by omega), Bool.and_false]
theorem deepXL_le (l : List Px) (d : Nat) : decide (deepXL l ≤ d) = l.all fun y => decide (deepX y ≤ d) := by
  induction l with
  | nil => simp [deepXL]
  | cons a r ih => rw [List.all_cons, ← ih, deepXL, Bool.eq_iff_iff, Bool.and_eq_true, decide_eq_true_iff, decide_eq_true_iff, decide_eq_true_iff]; omega
theorem formB_succ (x : Px) (d : Nat) : formB (d + 1) x = (nodeB x.kind x.text x.other x.n x.kids && x.kids.all (formB d)) := by
  obtain ⟨k, t, o, n, p, l⟩ := x
  unfold formB
  have e : (l.all fun y => wfX y && decide (deepX y ≤ d)) = (l.all wfX && l.all fun y => decide (deepX y ≤ d)) := by
    induction l with
    | nil => rfl
    | cons a r ih => simp only [List.all_cons, ih]; cases wfX a <;> cases decide (deepX a ≤ d) <;> simp
  show (wfX (.mk k t o n p l) && decide (deepXL l + 1 ≤ d + 1)) = (nodeB k t o n l && l.all fun y => wfX y && decide (deepX y ≤ d))
  rw [e, wfX, wfXL_all, show decide (deepXL l + 1 ≤ d + 1) = decide (deepXL l ≤ d) by rw [Bool.eq_iff_iff, decide_eq_true_iff, decide_eq_true_iff]; omega, deepXL_le, Bool.and_assoc]

/-- The same, told of variables. -/
structure NodeV (w : World) (V : Value) (kd kn : Int) (bt bo bn ba' : Bool) : Prop where
  kids : ∀ W : World, Calls Tryz.prog 65 #[.int .i64 kd] W fun e w' => e = .returned (.int .i64 kn) ∧ Below W.heap.size W w'
  text : ∀ W : World, Calls Tryz.prog 66 #[V] W fun e w' => e = .returned (.bool bt) ∧ Below W.heap.size W w'
  other : ∀ W : World, Calls Tryz.prog 67 #[V] W fun e w' => e = .returned (.bool bo) ∧ Below W.heap.size W w'
  num : ∀ W : World, Calls Tryz.prog 68 #[V] W fun e w' => e = .returned (.bool bn) ∧ Below W.heap.size W w'
  arms : ∀ W : World, Below w.heap.size w W → Calls Tryz.prog 69 #[V] W fun e w' => e = .returned (.bool ba') ∧ Below W.heap.size W w'
set_option maxHeartbeats 4000000 in
theorem formed_d0 (kd nn pp : Int) (tx ot : ByteArray) (a : Option Addr) (n cp : Nat) (w : World) :
    Calls Tryz.prog 32 #[.agg #[.int .i64 kd, .string tx, .string ot, .int .i64 nn, .int .i64 pp, .slice a n cp], .int .i64 0] w fun e w' => e = .returned (.bool false) ∧ Below w.heap.size w w' := by
  go_enter Tryz.func32, Tryz.ntmps32
  go_wp2_with fail
  obtain ⟨w1, hw1⟩ : ∃ w1, w1 = w.alloc (.cells #[.int .i64 kd, .string tx, .string ot, .int .i64 nn, .int .i64 pp, .slice a n cp] 49) := ⟨_, rfl⟩
  rw [← hw1]
  have L0 := later_cell (W := w1) (a := ⟨w.heap.size, 0, none⟩) (x := .int .i64 kd) (by rw [hw1]; simp) (by rw [hw1]; go_simp)
  have L1 := later_cell (W := w1) (a := ⟨w.heap.size, 1, none⟩) (x := .string tx) (by rw [hw1]; simp) (by rw [hw1]; go_simp)
  have L2 := later_cell (W := w1) (a := ⟨w.heap.size, 2, none⟩) (x := .string ot) (by rw [hw1]; simp) (by rw [hw1]; go_simp)
  have L3 := later_cell (W := w1) (a := ⟨w.heap.size, 3, none⟩) (x := .int .i64 nn) (by rw [hw1]; simp) (by rw [hw1]; go_simp)
  have L4 := later_cell (W := w1) (a := ⟨w.heap.size, 4, none⟩) (x := .int .i64 pp) (by rw [hw1]; simp) (by rw [hw1]; go_simp)
  have L5 := later_cell (W := w1) (a := ⟨w.heap.size, 5, none⟩) (x := .slice a n cp) (by rw [hw1]; simp) (by rw [hw1]; go_simp)
  have HB : Hid (Below w.heap.size w w1) := by rw [hw1]; exact ba (Below.refl _ _)
  have lw1 : w.heap.size < w1.heap.size := by rw [hw1]; simp
  clear hw1
  have ne : Nonempty (Later w1) := ⟨⟨w1, Below.refl _ _⟩⟩
  refine wp_region_later (by kernel_rfl) (by kernel_rfl) ?_
  repeat (go_big_quiet_step (fail))
  refine wpQuiet_nil ?_
  rintro wq ⟨⟨wv, hwq⟩, hE⟩; obtain rfl : wq = wv := hE
  clear L0 L1 L2 L3 L4 L5 ne
  go_wp2_with fail
  go_ret
  exact ⟨rfl, bl2 HB.out hwq⟩
set_option maxHeartbeats 4000000 in
theorem formed_kn (kd nn pp : Int) (tx ot : ByteArray) (a : Option Addr) (n cp d : Nat) (kn : Int) (w : World) (K : Hid (∀ W : World, Calls Tryz.prog 65 #[.int .i64 kd] W fun e w2 => e = .returned (.int .i64 kn) ∧ Below W.heap.size W w2)) (hd : d ≠ 0) (hn : ((n : Int) != kn) = true) :
    Calls Tryz.prog 32 #[.agg #[.int .i64 kd, .string tx, .string ot, .int .i64 nn, .int .i64 pp, .slice a n cp], .int .i64 (d : Nat)] w fun e w' => e = .returned (.bool false) ∧ Below w.heap.size w w' := by
  have qd : (((d : Nat) : Int) == 0) = false := by rw [beq_eq_false_iff_ne]; omega
  go_enter Tryz.func32, Tryz.ntmps32
  go_wp2_with fail
  obtain ⟨w1, hw1⟩ : ∃ w1, w1 = w.alloc (.cells #[.int .i64 kd, .string tx, .string ot, .int .i64 nn, .int .i64 pp, .slice a n cp] 49) := ⟨_, rfl⟩
  rw [← hw1]
  have L0 := later_cell (W := w1) (a := ⟨w.heap.size, 0, none⟩) (x := .int .i64 kd) (by rw [hw1]; simp) (by rw [hw1]; go_simp)
  have L1 := later_cell (W := w1) (a := ⟨w.heap.size, 1, none⟩) (x := .string tx) (by rw [hw1]; simp) (by rw [hw1]; go_simp)
  have L2 := later_cell (W := w1) (a := ⟨w.heap.size, 2, none⟩) (x := .string ot) (by rw [hw1]; simp) (by rw [hw1]; go_simp)
  have L3 := later_cell (W := w1) (a := ⟨w.heap.size, 3, none⟩) (x := .int .i64 nn) (by rw [hw1]; simp) (by rw [hw1]; go_simp)
  have L4 := later_cell (W := w1) (a := ⟨w.heap.size, 4, none⟩) (x := .int .i64 pp) (by rw [hw1]; simp) (by rw [hw1]; go_simp)
  have L5 := later_cell (W := w1) (a := ⟨w.heap.size, 5, none⟩) (x := .slice a n cp) (by rw [hw1]; simp) (by rw [hw1]; go_simp)
  have HB : Hid (Below w.heap.size w w1) := by rw [hw1]; exact ba (Below.refl _ _)
  have lw1 : w.heap.size < w1.heap.size := by rw [hw1]; simp
  clear hw1
  have ne : Nonempty (Later w1) := ⟨⟨w1, Below.refl _ _⟩⟩
  refine wp_region_later (by kernel_rfl) (by kernel_rfl) ?_
  repeat (go_big_quiet_step ((first
    | (go_at_call 65; exact calls_later (K.out (Later.v _))))))
  refine wpQuiet_nil ?_
  rintro wq ⟨⟨wv, hwq⟩, hE⟩; obtain rfl : wq = wv := hE
  clear L0 L1 L2 L3 L4 L5 ne
  go_wp2_with fail
  go_ret
  exact ⟨rfl, bl2 HB.out hwq⟩
set_option maxHeartbeats 4000000 in
theorem formed_text (kd nn pp : Int) (tx ot : ByteArray) (a : Option Addr) (n cp d : Nat) (bo bn bq : Bool) (kn : Int) (w : World) (K : Hid (NodeV w (.agg #[.int .i64 kd, .string tx, .string ot, .int .i64 nn, .int .i64 pp, .slice a n cp]) kd kn false bo bn bq)) (hd : d ≠ 0) (hn : ((n : Int) != kn) = false) :
    Calls Tryz.prog 32 #[.agg #[.int .i64 kd, .string tx, .string ot, .int .i64 nn, .int .i64 pp, .slice a n cp], .int .i64 (d : Nat)] w fun e w' => e = .returned (.bool false) ∧ Below w.heap.size w w' := by
  have qd : (((d : Nat) : Int) == 0) = false := by rw [beq_eq_false_iff_ne]; omega
  go_enter Tryz.func32, Tryz.ntmps32
  go_wp2_with fail
  obtain ⟨w1, hw1⟩ : ∃ w1, w1 = w.alloc (.cells #[.int .i64 kd, .string tx, .string ot, .int .i64 nn, .int .i64 pp, .slice a n cp] 49) := ⟨_, rfl⟩
  rw [← hw1]
  have L0 := later_cell (W := w1) (a := ⟨w.heap.size, 0, none⟩) (x := .int .i64 kd) (by rw [hw1]; simp) (by rw [hw1]; go_simp)
  have L1 := later_cell (W := w1) (a := ⟨w.heap.size, 1, none⟩) (x := .string tx) (by rw [hw1]; simp) (by rw [hw1]; go_simp)
  have L2 := later_cell (W := w1) (a := ⟨w.heap.size, 2, none⟩) (x := .string ot) (by rw [hw1]; simp) (by rw [hw1]; go_simp)
  have L3 := later_cell (W := w1) (a := ⟨w.heap.size, 3, none⟩) (x := .int .i64 nn) (by rw [hw1]; simp) (by rw [hw1]; go_simp)
  have L4 := later_cell (W := w1) (a := ⟨w.heap.size, 4, none⟩) (x := .int .i64 pp) (by rw [hw1]; simp) (by rw [hw1]; go_simp)
  have L5 := later_cell (W := w1) (a := ⟨w.heap.size, 5, none⟩) (x := .slice a n cp) (by rw [hw1]; simp) (by rw [hw1]; go_simp)
  have HB : Hid (Below w.heap.size w w1) := by rw [hw1]; exact ba (Below.refl _ _)
  have lw1 : w.heap.size < w1.heap.size := by rw [hw1]; simp
  clear hw1
  have ne : Nonempty (Later w1) := ⟨⟨w1, Below.refl _ _⟩⟩
  refine wp_region_later (by kernel_rfl) (by kernel_rfl) ?_
  repeat (go_big_quiet_step ((first
    | (go_at_call 65; exact calls_later (K.out.kids (Later.v _)))
    | (go_at_call 66; exact calls_later (K.out.text (Later.v _)))
    | (go_at_call 67; exact calls_later (K.out.other (Later.v _)))
    | (go_at_call 68; exact calls_later (K.out.num (Later.v _)))
    | (go_at_call 69; exact calls_later (K.out.arms (Later.v _) (bl2 HB.out (Later.h _)))))))
  refine wpQuiet_nil ?_
  rintro wq ⟨⟨wv, hwq⟩, hE⟩; obtain rfl : wq = wv := hE
  clear L0 L1 L2 L3 L4 L5 ne
  go_wp2_with fail
  go_ret
  exact ⟨rfl, bl2 HB.out hwq⟩
set_option maxHeartbeats 4000000 in
theorem formed_other (kd nn pp : Int) (tx ot : ByteArray) (a : Option Addr) (n cp d : Nat) (bn bq : Bool) (kn : Int) (w : World) (K : Hid (NodeV w (.agg #[.int .i64 kd, .string tx, .string ot, .int .i64 nn, .int .i64 pp, .slice a n cp]) kd kn true false bn bq)) (hd : d ≠ 0) (hn : ((n : Int) != kn) = false) :
    Calls Tryz.prog 32 #[.agg #[.int .i64 kd, .string tx, .string ot, .int .i64 nn, .int .i64 pp, .slice a n cp], .int .i64 (d : Nat)] w fun e w' => e = .returned (.bool false) ∧ Below w.heap.size w w' := by
  have qd : (((d : Nat) : Int) == 0) = false := by rw [beq_eq_false_iff_ne]; omega
  go_enter Tryz.func32, Tryz.ntmps32
  go_wp2_with fail
  obtain ⟨w1, hw1⟩ : ∃ w1, w1 = w.alloc (.cells #[.int .i64 kd, .string tx, .string ot, .int .i64 nn, .int .i64 pp, .slice a n cp] 49) := ⟨_, rfl⟩
  rw [← hw1]
  have L0 := later_cell (W := w1) (a := ⟨w.heap.size, 0, none⟩) (x := .int .i64 kd) (by rw [hw1]; simp) (by rw [hw1]; go_simp)
  have L1 := later_cell (W := w1) (a := ⟨w.heap.size, 1, none⟩) (x := .string tx) (by rw [hw1]; simp) (by rw [hw1]; go_simp)
  have L2 := later_cell (W := w1) (a := ⟨w.heap.size, 2, none⟩) (x := .string ot) (by rw [hw1]; simp) (by rw [hw1]; go_simp)
  have L3 := later_cell (W := w1) (a := ⟨w.heap.size, 3, none⟩) (x := .int .i64 nn) (by rw [hw1]; simp) (by rw [hw1]; go_simp)
  have L4 := later_cell (W := w1) (a := ⟨w.heap.size, 4, none⟩) (x := .int .i64 pp) (by rw [hw1]; simp) (by rw [hw1]; go_simp)
  have L5 := later_cell (W := w1) (a := ⟨w.heap.size, 5, none⟩) (x := .slice a n cp) (by rw [hw1]; simp) (by rw [hw1]; go_simp)
  have HB : Hid (Below w.heap.size w w1) := by rw [hw1]; exact ba (Below.refl _ _)
  have lw1 : w.heap.size < w1.heap.size := by rw [hw1]; simp
  clear hw1
  have ne : Nonempty (Later w1) := ⟨⟨w1, Below.refl _ _⟩⟩
  refine wp_region_later (by kernel_rfl) (by kernel_rfl) ?_
  repeat (go_big_quiet_step ((first
    | (go_at_call 65; exact calls_later (K.out.kids (Later.v _)))
    | (go_at_call 66; exact calls_later (K.out.text (Later.v _)))
    | (go_at_call 67; exact calls_later (K.out.other (Later.v _)))
    | (go_at_call 68; exact calls_later (K.out.num (Later.v _)))
    | (go_at_call 69; exact calls_later (K.out.arms (Later.v _) (bl2 HB.out (Later.h _)))))))
  refine wpQuiet_nil ?_
  rintro wq ⟨⟨wv, hwq⟩, hE⟩; obtain rfl : wq = wv := hE
  clear L0 L1 L2 L3 L4 L5 ne
  go_wp2_with fail
  go_ret
  exact ⟨rfl, bl2 HB.out hwq⟩
set_option maxHeartbeats 4000000 in
theorem formed_num (kd nn pp : Int) (tx ot : ByteArray) (a : Option Addr) (n cp d : Nat) (bq : Bool) (kn : Int) (w : World) (K : Hid (NodeV w (.agg #[.int .i64 kd, .string tx, .string ot, .int .i64 nn, .int .i64 pp, .slice a n cp]) kd kn true true false bq)) (hd : d ≠ 0) (hn : ((n : Int) != kn) = false) :
    Calls Tryz.prog 32 #[.agg #[.int .i64 kd, .string tx, .string ot, .int .i64 nn, .int .i64 pp, .slice a n cp], .int .i64 (d : Nat)] w fun e w' => e = .returned (.bool false) ∧ Below w.heap.size w w' := by
  have qd : (((d : Nat) : Int) == 0) = false := by rw [beq_eq_false_iff_ne]; omega
  go_enter Tryz.func32, Tryz.ntmps32
  go_wp2_with fail
  obtain ⟨w1, hw1⟩ : ∃ w1, w1 = w.alloc (.cells #[.int .i64 kd, .string tx, .string ot, .int .i64 nn, .int .i64 pp, .slice a n cp] 49) := ⟨_, rfl⟩
  rw [← hw1]
  have L0 := later_cell (W := w1) (a := ⟨w.heap.size, 0, none⟩) (x := .int .i64 kd) (by rw [hw1]; simp) (by rw [hw1]; go_simp)
  have L1 := later_cell (W := w1) (a := ⟨w.heap.size, 1, none⟩) (x := .string tx) (by rw [hw1]; simp) (by rw [hw1]; go_simp)
  have L2 := later_cell (W := w1) (a := ⟨w.heap.size, 2, none⟩) (x := .string ot) (by rw [hw1]; simp) (by rw [hw1]; go_simp)
  have L3 := later_cell (W := w1) (a := ⟨w.heap.size, 3, none⟩) (x := .int .i64 nn) (by rw [hw1]; simp) (by rw [hw1]; go_simp)
  have L4 := later_cell (W := w1) (a := ⟨w.heap.size, 4, none⟩) (x := .int .i64 pp) (by rw [hw1]; simp) (by rw [hw1]; go_simp)
  have L5 := later_cell (W := w1) (a := ⟨w.heap.size, 5, none⟩) (x := .slice a n cp) (by rw [hw1]; simp) (by rw [hw1]; go_simp)
  have HB : Hid (Below w.heap.size w w1) := by rw [hw1]; exact ba (Below.refl _ _)
  have lw1 : w.heap.size < w1.heap.size := by rw [hw1]; simp
  clear hw1
  have ne : Nonempty (Later w1) := ⟨⟨w1, Below.refl _ _⟩⟩
  refine wp_region_later (by kernel_rfl) (by kernel_rfl) ?_
  repeat (go_big_quiet_step ((first
    | (go_at_call 65; exact calls_later (K.out.kids (Later.v _)))
    | (go_at_call 66; exact calls_later (K.out.text (Later.v _)))
    | (go_at_call 67; exact calls_later (K.out.other (Later.v _)))
    | (go_at_call 68; exact calls_later (K.out.num (Later.v _)))
    | (go_at_call 69; exact calls_later (K.out.arms (Later.v _) (bl2 HB.out (Later.h _)))))))
  refine wpQuiet_nil ?_
  rintro wq ⟨⟨wv, hwq⟩, hE⟩; obtain rfl : wq = wv := hE
  clear L0 L1 L2 L3 L4 L5 ne
  go_wp2_with fail
  go_ret
  exact ⟨rfl, bl2 HB.out hwq⟩
set_option maxHeartbeats 4000000 in
theorem formed_arms (kd nn pp : Int) (tx ot : ByteArray) (a : Option Addr) (n cp d : Nat) (kn : Int) (w : World) (K : Hid (NodeV w (.agg #[.int .i64 kd, .string tx, .string ot, .int .i64 nn, .int .i64 pp, .slice a n cp]) kd kn true true true false)) (hd : d ≠ 0) (hn : ((n : Int) != kn) = false) :
    Calls Tryz.prog 32 #[.agg #[.int .i64 kd, .string tx, .string ot, .int .i64 nn, .int .i64 pp, .slice a n cp], .int .i64 (d : Nat)] w fun e w' => e = .returned (.bool false) ∧ Below w.heap.size w w' := by
  have qd : (((d : Nat) : Int) == 0) = false := by rw [beq_eq_false_iff_ne]; omega
  go_enter Tryz.func32, Tryz.ntmps32
  go_wp2_with fail
  obtain ⟨w1, hw1⟩ : ∃ w1, w1 = w.alloc (.cells #[.int .i64 kd, .string tx, .string ot, .int .i64 nn, .int .i64 pp, .slice a n cp] 49) := ⟨_, rfl⟩
  rw [← hw1]
  have L0 := later_cell (W := w1) (a := ⟨w.heap.size, 0, none⟩) (x := .int .i64 kd) (by rw [hw1]; simp) (by rw [hw1]; go_simp)
  have L1 := later_cell (W := w1) (a := ⟨w.heap.size, 1, none⟩) (x := .string tx) (by rw [hw1]; simp) (by rw [hw1]; go_simp)
  have L2 := later_cell (W := w1) (a := ⟨w.heap.size, 2, none⟩) (x := .string ot) (by rw [hw1]; simp) (by rw [hw1]; go_simp)
  have L3 := later_cell (W := w1) (a := ⟨w.heap.size, 3, none⟩) (x := .int .i64 nn) (by rw [hw1]; simp) (by rw [hw1]; go_simp)
  have L4 := later_cell (W := w1) (a := ⟨w.heap.size, 4, none⟩) (x := .int .i64 pp) (by rw [hw1]; simp) (by rw [hw1]; go_simp)
  have L5 := later_cell (W := w1) (a := ⟨w.heap.size, 5, none⟩) (x := .slice a n cp) (by rw [hw1]; simp) (by rw [hw1]; go_simp)
  have HB : Hid (Below w.heap.size w w1) := by rw [hw1]; exact ba (Below.refl _ _)
  have lw1 : w.heap.size < w1.heap.size := by rw [hw1]; simp
  clear hw1
  have ne : Nonempty (Later w1) := ⟨⟨w1, Below.refl _ _⟩⟩
  refine wp_region_later (by kernel_rfl) (by kernel_rfl) ?_
  repeat (go_big_quiet_step ((first
    | (go_at_call 65; exact calls_later (K.out.kids (Later.v _)))
    | (go_at_call 66; exact calls_later (K.out.text (Later.v _)))
    | (go_at_call 67; exact calls_later (K.out.other (Later.v _)))
    | (go_at_call 68; exact calls_later (K.out.num (Later.v _)))
    | (go_at_call 69; exact calls_later (K.out.arms (Later.v _) (bl2 HB.out (Later.h _)))))))
  refine wpQuiet_nil ?_
  rintro wq ⟨⟨wv, hwq⟩, hE⟩; obtain rfl : wq = wv := hE
  clear L0 L1 L2 L3 L4 L5 ne
  go_wp2_with fail
  go_ret
  exact ⟨rfl, bl2 HB.out hwq⟩
end Go.Proofs.YtkljakeccfnakaaGreatDoor

namespace Go.Proofs.YtkljakeccfnakaaGreatDoor
open Go.RowKit

/-- A kid's value, told of variables. -/
structure KidsF (hi : Nat) (w : World) (b off : Nat) (l : List Px) (dm : Int) (d : Nat) : Prop where
  row : Row hi w b off l
  hhi : hi ≤ w.heap.size
  calls : ∀ (j : Nat) (y : Px) (u : Value) (W : World), l[j]? = some y → Below w.heap.size w W → PxV hi w u y → Calls Tryz.prog 32 #[u, .int .i64 dm] W fun e w' => e = .returned (.bool (formB d y)) ∧ Below W.heap.size W w'

set_option maxHeartbeats 8000000 in
theorem formed_loop (kd nn pp : Int) (tx ot : ByteArray) (a : Option Addr) (n cp d : Nat) (kn : Int) (w : World) (K : Hid (NodeV w (.agg #[.int .i64 kd, .string tx, .string ot, .int .i64 nn, .int .i64 pp, .slice a n cp]) kd kn true true true true)) (dd dm : Int) (l : List Px) (hn : l.length = n) (hd : (dd == 0) = false) (hdm : IntKind.i64.wrap (dd - 1) = dm) (hkn : ((n : Int) != kn) = false) (hcap : n ≤ cp ∧ n ≤ 140737488351232)
    (hk : l = [] ∨ ∃ hi b off, a = some ⟨b, off, none⟩ ∧ Hid (KidsF hi w b off l dm d)) :
    Calls Tryz.prog 32 #[.agg #[.int .i64 kd, .string tx, .string ot, .int .i64 nn, .int .i64 pp, .slice a n cp], .int .i64 dd] w fun e w' => e = .returned (.bool (l.all (formB d))) ∧ Below w.heap.size w w' := by
  have HN : Hid (l.length = n) := hn
  clear hn
  have HKK := Hid.intro hk
  clear hk
  obtain ⟨hcap, hlen⟩ := hcap
  go_enter Tryz.func32, Tryz.ntmps32
  go_wp2_with fail
  obtain ⟨w1, hw1⟩ : ∃ w1, w1 = w.alloc (.cells #[.int .i64 kd, .string tx, .string ot, .int .i64 nn, .int .i64 pp, .slice a n cp] 49) := ⟨_, rfl⟩
  rw [← hw1]
  have L0 := later_cell (W := w1) (a := ⟨w.heap.size, 0, none⟩) (x := .int .i64 kd) (by rw [hw1]; simp) (by rw [hw1]; go_simp)
  have L1 := later_cell (W := w1) (a := ⟨w.heap.size, 1, none⟩) (x := .string tx) (by rw [hw1]; simp) (by rw [hw1]; go_simp)
  have L2 := later_cell (W := w1) (a := ⟨w.heap.size, 2, none⟩) (x := .string ot) (by rw [hw1]; simp) (by rw [hw1]; go_simp)
  have L3 := later_cell (W := w1) (a := ⟨w.heap.size, 3, none⟩) (x := .int .i64 nn) (by rw [hw1]; simp) (by rw [hw1]; go_simp)
  have L4 := later_cell (W := w1) (a := ⟨w.heap.size, 4, none⟩) (x := .int .i64 pp) (by rw [hw1]; simp) (by rw [hw1]; go_simp)
  have L5 := later_cell (W := w1) (a := ⟨w.heap.size, 5, none⟩) (x := .slice a n cp) (by rw [hw1]; simp) (by rw [hw1]; go_simp)
  have HB : Hid (Below w.heap.size w w1) := by rw [hw1]; exact ba (Below.refl _ _)
  have lw1 : w.heap.size < w1.heap.size := by rw [hw1]; simp
  clear hw1
  have ne : Nonempty (Later w1) := ⟨⟨w1, Below.refl _ _⟩⟩
  refine wp_region_later (by kernel_rfl) (by kernel_rfl) ?_
  repeat (go_big_quiet_step ((first
    | (go_at_call 65; exact calls_later (K.out.kids (Later.v _)))
    | (go_at_call 66; exact calls_later (K.out.text (Later.v _)))
    | (go_at_call 67; exact calls_later (K.out.other (Later.v _)))
    | (go_at_call 68; exact calls_later (K.out.num (Later.v _)))
    | (go_at_call 69; exact calls_later (K.out.arms (Later.v _) (bl2 HB.out (Later.h _)))))))
  refine wpQuiet_nil ?_
  rintro wq ⟨⟨wv, hwq⟩, hE⟩; obtain rfl : wq = wv := hE
  have c5 : wq.cell? ⟨w.heap.size, 5, none⟩ = some (.slice a n cp) := L5 ⟨wq, hwq⟩
  clear L0 L1 L2 L3 L4 L5 ne
  have HB2 : Hid (Below w.heap.size w wq) := bl2 HB.out hwq
  have lq : w.heap.size < wq.heap.size := lt_cell c5
  clear hwq lw1 HB
  go_wp2_with fail
  go_loopw [41] (fun t wr => ∃ (i : Nat), i ≤ n ∧ t = .int .i64 i ∧ Hid ((l.take i).all (formB d) = true) ∧ Below w.heap.size w wr) (fun t _ => n - (intOf t).toNat)
  case atStart => exact ⟨0, Nat.zero_le _, rfl, by simp [Hid], HB2.out⟩
  case round =>
    obtain ⟨i, hi', rfl, hs, hb⟩ := hrel
    by_cases c : i < n
    · have c' : (i : Int) < (n : Int) := by omega
      rcases HKK.out with h0 | ⟨hi, b, off, rfl, KF⟩
      · exact absurd HN.out (by rw [h0]; simp; omega)
      obtain ⟨y, hy⟩ : ∃ y, l[i]? = some y := ⟨_, List.getElem?_eq_getElem (by have := HN.out; omega)⟩
      obtain ⟨ka, cp2, hkc, hky⟩ := KF.out.row.2 i y hy
      have hbl : b < w.heap.size := Nat.lt_of_lt_of_le KF.out.row.1 KF.out.hhi
      obtain ⟨HK0, HK1, HK2, HK3, HK4, HK5⟩ := hkc.keep hb hbl
      have HC : Hid (∀ W : World, Below w.heap.size w W → Calls Tryz.prog 32 #[.agg #[.int .i64 y.kind, .string ⟨y.text.toArray⟩, .string ⟨y.other.toArray⟩, .int .i64 y.n, .int .i64 y.pl, .slice ka y.kids.length cp2], .int .i64 dm] W fun e w' => e = .returned (.bool (formB d y)) ∧ Below W.heap.size W w') := fun W hW => KF.out.calls i y _ W hy hW hky
      have HY : Hid (l[i]? = some y) := hy
      have hbr : b < wr.heap.size := Nat.lt_of_lt_of_le hbl hb.size
      have KW : Hid (Below w.heap.size w wr) := hb
      clear hkc hky hy HKK c5 hb
      generalize y.kids.length = yl at *
      obtain ⟨z, hz⟩ : ∃ z, formB d y = z := ⟨_, rfl⟩
      have HZ : Hid (formB d y = z) := hz
      rw [hz] at HC
      clear hz
      cases z with
      | false =>
        have E : Hid (l.all (formB d) = false) := by
          show _ = _
          rw [List.all_eq_false]
          exact ⟨y, List.mem_of_getElem? HY.out, by rw [HZ.out]; simp⟩
        go_wp2_with (go_at_call 32; refine (HC.out _ (ba KW.out)).mono ?_; rintro e w3 ⟨rfl, hb3⟩)
        go_ret
        exact ⟨ret_bool E.out.symm, bl2 (ba KW.out) hb3⟩
      | true =>
        have E : Hid ((l.take (i + 1)).all (formB d) = true) := by
          show _ = _
          rw [takeX_add HY.out, List.all_append, hs.out, List.all_cons, HZ.out]; rfl
        go_wp2_with (go_at_call 32; refine (HC.out _ (ba KW.out)).mono ?_; rintro e w3 ⟨rfl, hb3⟩)
        go_roundw
        case rel => exact ⟨i + 1, by omega, by go_num, E.out, bl2 (ba KW.out) hb3⟩
        case measure => simp [intOf]; omega
    · have c' : ¬ (i : Int) < (n : Int) := by omega
      have E : Hid (l.all (formB d) = true) := by
        show _ = _
        have := hs.out
        rwa [List.take_of_length_le (by have := HN.out; omega)] at this
      go_wp2_with fail
      go_ret
      exact ⟨ret_bool E.out.symm, hb⟩

/-- The program's test of an expression, at most d deep. -/
theorem formed_any (N : Nat) : ∀ (x : Px) (v : Value) (hi : Nat) (w : World) (d : Nat), szX x ≤ N → hi ≤ w.heap.size → PxV hi w v x → d ≤ 1000 →
    Calls Tryz.prog 32 #[v, .int .i64 (d : Nat)] w fun e w' => e = .returned (.bool (formB d x)) ∧ Below w.heap.size w w' := by
  induction N with
  | zero => intro x v lo w d h; have := szX_pos x; omega
  | succ N ih =>
    intro x v hi w d hN hhi hx hd
    obtain ⟨a, cap, rfl, hcap, hlen, hab⟩ := hx.row
    have K := nodeK_of hx hhi
    by_cases h0 : d = 0
    · subst h0
      rw [formB_zero]
      exact formed_d0 _ _ _ _ _ _ _ _ w
    obtain ⟨m, rfl⟩ : ∃ m, d = m + 1 := ⟨d - 1, by omega⟩
    rw [formB_succ]
    unfold nodeB
    by_cases hk : (x.kids.length : Int) = kidsN x.kind
    case neg =>
      rw [beq_eq_false_iff_ne.2 hk, Bool.false_and, Bool.false_and, Bool.false_and, Bool.false_and, Bool.false_and]
      exact formed_kn _ _ _ _ _ _ _ _ _ _ w K.kids h0 (by rw [bne_iff_ne]; exact hk)
    rw [beq_iff_eq.2 hk, Bool.true_and]
    have hkn : ((x.kids.length : Int) != kidsN x.kind) = false := by rw [bne_eq_false_iff_eq]; exact hk
    have KV : NodeV w (pv x a cap) x.kind (kidsN x.kind) (textB x.kind x.text x.n) (otherB x.kind x.other) (numB x.kind x.n) (armsB x.kind x.n x.kids) := ⟨K.kids, K.text, K.other, K.num, K.arms hk⟩
    clear K
    generalize textB x.kind x.text x.n = b1 at *
    generalize otherB x.kind x.other = b2 at *
    generalize numB x.kind x.n = b3 at *
    generalize armsB x.kind x.n x.kids = b4 at *
    generalize kidsN x.kind = kn at *
    cases b1 with
    | false => exact formed_text _ _ _ _ _ _ _ _ _ _ _ _ kn w KV h0 hkn
    | true =>
    cases b2 with
    | false => exact formed_other _ _ _ _ _ _ _ _ _ _ _ kn w KV h0 hkn
    | true =>
    cases b3 with
    | false => exact formed_num _ _ _ _ _ _ _ _ _ _ kn w KV h0 hkn
    | true =>
    cases b4 with
    | false => exact formed_arms _ _ _ _ _ _ _ _ _ kn w KV h0 hkn
    | true =>
    rw [Bool.true_and, Bool.true_and, Bool.true_and, Bool.true_and]
    refine formed_loop _ _ _ _ _ _ _ _ m kn w KV (((m + 1 : Nat)) : Int) (m : Int) x.kids rfl (by rw [beq_eq_false_iff_ne]; omega) ?_ hkn ⟨hcap, hlen⟩ ?_
    · rw [show (((m + 1 : Nat)) : Int) - 1 = (m : Int) by omega]
      rw [IntKind.wrap_i64]; omega
    · refine hab.imp id ?_
      rintro ⟨b, off, e, hR⟩
      exact ⟨hi, b, off, e, hR, hhi, fun j y u W hj hW hu => ih y u hi W m (by have := szXL_mem _ j y hj; cases x; simp only [szX, Px.kids] at *; omega) (Nat.le_trans hhi hW.size) (hu.keep (hW.mono hhi)) (by omega)⟩
end Go.Proofs.YtkljakeccfnakaaGreatDoor
