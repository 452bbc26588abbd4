/-
  The document's own text of an expression: where it is not formed; the whole.
-/

import Derived.Test.YtkljakeccfnakaaGreatDoorUN1

import Derived.Test.YtkljakeccfnakaaGreatDoorUN2

import Derived.Test.YtkljakeccfnakaaGreatDoorUN3

import Derived.Test.YtkljakeccfnakaaGreatDoorUN4

import Derived.Test.YtkljakeccfnakaaGreatDoorUN5

import Derived.Test.YtkljakeccfnakaaGreatDoorUN6

import Derived.Test.YtkljakeccfnakaaGreatDoorUN7

namespace Go.Proofs.YtkljakeccfnakaaGreatDoor
open Go.RowKit

theorem emp_yes : ((⟨([] : List UInt8).toArray⟩ : ByteArray).toList == []) = true := by rw [Lib.toList_data]; rfl
theorem emp_no {o : List UInt8} (h : o ≠ []) : ((⟨o.toArray⟩ : ByteArray).toList == []) = false ∧ o.isEmpty = false := by
  refine ⟨by rw [Lib.toList_data, beq_eq_false_iff_ne]; exact h, ?_⟩
  cases o with
  | nil => exact absurd rfl h
  | cons a r => rfl
theorem name_ne {o : List UInt8} (h : isNameB o = true) : o ≠ [] := fun e => by rw [e] at h; exact absurd h (by decide)

set_option maxRecDepth 100000 in
set_option maxHeartbeats 4000000 in
theorem textF1 (k : Int) (t o : List UInt8) (n p : Int) (a : Option Addr) (ln cap : Nat) (w : World) (ht1 : t.length ≤ 100) (ho1 : o.length ≤ 100) (hk : (ln : Int) ≠ kidsN k) :
    Calls Tryz.prog 29 #[.agg #[.int .i64 k, .string ⟨t.toArray⟩, .string ⟨o.toArray⟩, .int .i64 n, .int .i64 p, .slice a ln cap]] w fun e w' => e = .returned (.tuple #[.string ⟨#[]⟩, .bool false]) ∧ Below w.heap.size w w' := by
  obtain ⟨kn, hkn⟩ : ∃ kn, kidsN k = kn := ⟨_, rfl⟩
  rw [hkn] at hk
  have hq : ((ln : Int) != kn) = true := by rw [bne_iff_ne]; exact hk
  have HK : Hid (∀ W : World, Calls Tryz.prog 61 #[.int .i64 k] W fun e w' => e = .returned (.int .i64 kn) ∧ w' = W) := fun W => by have := refKids_any k W; rw [hkn] at this; exact this
  clear hkn
  have HU : Hid (∀ W : World, Calls Tryz.prog 62 #[.int .i64 k] W fun e w' => e = .returned (.bool (usesB k)) ∧ w' = W) := fun W => refUses_any k W
  have HT : Hid (∀ W : World, Calls Tryz.prog 27 #[.string ⟨t.toArray⟩] W fun e w' => e = .returned (.bool (isNameB t)) ∧ w' = W) := name_at t _ ht1 rfl
  have HO : Hid (∀ W : World, Calls Tryz.prog 27 #[.string ⟨o.toArray⟩] W fun e w' => e = .returned (.bool (isNameB o)) ∧ w' = W) := name_at o _ ho1 rfl
  go_enter Tryz.func29, Tryz.ntmps29
  go_wp2_with fail
  go_quiet ((first | (go_at_call 61; exact Calls.quiet_of_same (HK.out _)) | (go_at_call 27; exact Calls.quiet_of_same (HO.out _))))
  go_wp2_with (first | (go_at_call 62; refine (HU.out _).mono ?_; rintro e w1 ⟨rfl, rfl⟩) | (go_at_call 27; refine (HT.out _).mono ?_; rintro e w1 ⟨rfl, rfl⟩))
  go_ret2
  exact ⟨rfl, bdn (ba (Below.refl _ _))⟩

set_option maxRecDepth 100000 in
set_option maxHeartbeats 4000000 in
theorem textF2 (t o : List UInt8) (n p : Int) (a : Option Addr) (ln cap : Nat) (w : World) (ht1 : t.length ≤ 100) (ho1 : o.length ≤ 100) (hk : (ln : Int) = kidsN 25) (ho : o = []) :
    Calls Tryz.prog 29 #[.agg #[.int .i64 25, .string ⟨t.toArray⟩, .string ⟨o.toArray⟩, .int .i64 n, .int .i64 p, .slice a ln cap]] w fun e w' => e = .returned (.tuple #[.string ⟨#[]⟩, .bool false]) ∧ Below w.heap.size w w' := by
  have HK : Hid (∀ W : World, Calls Tryz.prog 61 #[.int .i64 25] W fun e w' => e = .returned (.int .i64 (ln : Int)) ∧ w' = W) := fun W => by have := refKids_any 25 W; rw [← hk] at this; exact this
  clear hk
  subst ho
  have hq := emp_yes
  have HU : Hid (∀ W : World, Calls Tryz.prog 62 #[.int .i64 25] W fun e w' => e = .returned (.bool (usesB 25)) ∧ w' = W) := fun W => refUses_any 25 W
  have HT : Hid (∀ W : World, Calls Tryz.prog 27 #[.string ⟨t.toArray⟩] W fun e w' => e = .returned (.bool (isNameB t)) ∧ w' = W) := name_at t _ ht1 rfl
  have HO : Hid (∀ W : World, Calls Tryz.prog 27 #[.string ⟨([] : List UInt8).toArray⟩] W fun e w' => e = .returned (.bool (isNameB [])) ∧ w' = W) := name_at [] _ ho1 rfl
  go_enter Tryz.func29, Tryz.ntmps29
  go_wp2_with fail
  go_quiet ((first | (go_at_call 61; exact Calls.quiet_of_same (HK.out _)) | (go_at_call 27; exact Calls.quiet_of_same (HO.out _))))
  go_wp2_with (first | (go_at_call 62; refine (HU.out _).mono ?_; rintro e w1 ⟨rfl, rfl⟩) | (go_at_call 27; refine (HT.out _).mono ?_; rintro e w1 ⟨rfl, rfl⟩))
  go_ret2
  exact ⟨rfl, bdn (ba (Below.refl _ _))⟩

set_option maxRecDepth 100000 in
set_option maxHeartbeats 4000000 in
theorem textF3 (k : Int) (t o : List UInt8) (n p : Int) (a : Option Addr) (ln cap : Nat) (w : World) (ht1 : t.length ≤ 100) (ho1 : o.length ≤ 100) (hk : (ln : Int) = kidsN k) (h25 : k ≠ 25) (ho : o ≠ []) :
    Calls Tryz.prog 29 #[.agg #[.int .i64 k, .string ⟨t.toArray⟩, .string ⟨o.toArray⟩, .int .i64 n, .int .i64 p, .slice a ln cap]] w fun e w' => e = .returned (.tuple #[.string ⟨#[]⟩, .bool false]) ∧ Below w.heap.size w w' := by
  have HK : Hid (∀ W : World, Calls Tryz.prog 61 #[.int .i64 k] W fun e w' => e = .returned (.int .i64 (ln : Int)) ∧ w' = W) := fun W => by have := refKids_any k W; rw [← hk] at this; exact this
  clear hk
  have q25 : (k == 25) = false := by rw [beq_eq_false_iff_ne]; exact h25
  obtain ⟨hq, hq'⟩ := emp_no ho
  have HU : Hid (∀ W : World, Calls Tryz.prog 62 #[.int .i64 k] W fun e w' => e = .returned (.bool (usesB k)) ∧ w' = W) := fun W => refUses_any k W
  have HT : Hid (∀ W : World, Calls Tryz.prog 27 #[.string ⟨t.toArray⟩] W fun e w' => e = .returned (.bool (isNameB t)) ∧ w' = W) := name_at t _ ht1 rfl
  have HO : Hid (∀ W : World, Calls Tryz.prog 27 #[.string ⟨o.toArray⟩] W fun e w' => e = .returned (.bool (isNameB o)) ∧ w' = W) := name_at o _ ho1 rfl
  go_enter Tryz.func29, Tryz.ntmps29
  go_wp2_with fail
  go_quiet ((first | (go_at_call 61; exact Calls.quiet_of_same (HK.out _)) | (go_at_call 27; exact Calls.quiet_of_same (HO.out _))))
  go_wp2_with (first | (go_at_call 62; refine (HU.out _).mono ?_; rintro e w1 ⟨rfl, rfl⟩) | (go_at_call 27; refine (HT.out _).mono ?_; rintro e w1 ⟨rfl, rfl⟩))
  go_ret2
  exact ⟨rfl, bdn (ba (Below.refl _ _))⟩

set_option maxRecDepth 100000 in
set_option maxHeartbeats 4000000 in
theorem textF4 (t o : List UInt8) (n p : Int) (a : Option Addr) (ln cap : Nat) (w : World) (ht1 : t.length ≤ 100) (ho1 : o.length ≤ 100) (hk : (ln : Int) = kidsN 25) (hne : o ≠ []) (ho : isNameB o = false) :
    Calls Tryz.prog 29 #[.agg #[.int .i64 25, .string ⟨t.toArray⟩, .string ⟨o.toArray⟩, .int .i64 n, .int .i64 p, .slice a ln cap]] w fun e w' => e = .returned (.tuple #[.string ⟨#[]⟩, .bool false]) ∧ Below w.heap.size w w' := by
  have HK : Hid (∀ W : World, Calls Tryz.prog 61 #[.int .i64 25] W fun e w' => e = .returned (.int .i64 (ln : Int)) ∧ w' = W) := fun W => by have := refKids_any 25 W; rw [← hk] at this; exact this
  clear hk
  have HO : Hid (∀ W : World, Calls Tryz.prog 27 #[.string ⟨o.toArray⟩] W fun e w' => e = .returned (.bool false) ∧ w' = W) := name_at o _ ho1 ho
  obtain ⟨hq, hq'⟩ := emp_no hne
  clear hne ho
  have HU : Hid (∀ W : World, Calls Tryz.prog 62 #[.int .i64 25] W fun e w' => e = .returned (.bool (usesB 25)) ∧ w' = W) := fun W => refUses_any 25 W
  have HT : Hid (∀ W : World, Calls Tryz.prog 27 #[.string ⟨t.toArray⟩] W fun e w' => e = .returned (.bool (isNameB t)) ∧ w' = W) := name_at t _ ht1 rfl
  go_enter Tryz.func29, Tryz.ntmps29
  go_wp2_with fail
  go_quiet ((first | (go_at_call 61; exact Calls.quiet_of_same (HK.out _)) | (go_at_call 27; exact Calls.quiet_of_same (HO.out _))))
  go_wp2_with (first | (go_at_call 62; refine (HU.out _).mono ?_; rintro e w1 ⟨rfl, rfl⟩) | (go_at_call 27; refine (HT.out _).mono ?_; rintro e w1 ⟨rfl, rfl⟩))
  go_ret2
  exact ⟨rfl, bdn (ba (Below.refl _ _))⟩

set_option maxRecDepth 100000 in
set_option maxHeartbeats 4000000 in
theorem textG1 (t o : List UInt8) (n p : Int) (a : Option Addr) (ln cap : Nat) (w : World) (ht1 : t.length ≤ 100) (ho1 : o.length ≤ 100) (hk : (ln : Int) = kidsN 25) (ho : isNameB o = true) (ht : isNameB t = false) :
    Calls Tryz.prog 29 #[.agg #[.int .i64 25, .string ⟨t.toArray⟩, .string ⟨o.toArray⟩, .int .i64 n, .int .i64 p, .slice a ln cap]] w fun e w' => e = .returned (.tuple #[.string ⟨#[]⟩, .bool false]) ∧ Below w.heap.size w w' := by
  have HK : Hid (∀ W : World, Calls Tryz.prog 61 #[.int .i64 25] W fun e w' => e = .returned (.int .i64 (ln : Int)) ∧ w' = W) := fun W => by have := refKids_any 25 W; rw [← hk] at this; exact this
  clear hk
  have HO : Hid (∀ W : World, Calls Tryz.prog 27 #[.string ⟨o.toArray⟩] W fun e w' => e = .returned (.bool true) ∧ w' = W) := name_at o _ ho1 ho
  obtain ⟨hq, hq'⟩ := emp_no (name_ne ho)
  clear ho
  have hu : usesB 25 = true := rfl
  have HU : Hid (∀ W : World, Calls Tryz.prog 62 #[.int .i64 25] W fun e w' => e = .returned (.bool true) ∧ w' = W) := fun W => by have := refUses_any 25 W; rw [hu] at this; exact this
  clear hu
  have HT : Hid (∀ W : World, Calls Tryz.prog 27 #[.string ⟨t.toArray⟩] W fun e w' => e = .returned (.bool false) ∧ w' = W) := name_at t _ ht1 ht
  clear ht
  go_enter Tryz.func29, Tryz.ntmps29
  go_wp2_with fail
  go_quiet ((first | (go_at_call 61; exact Calls.quiet_of_same (HK.out _)) | (go_at_call 27; exact Calls.quiet_of_same (HO.out _))))
  go_wp2_with (first | (go_at_call 62; refine (HU.out _).mono ?_; rintro e w1 ⟨rfl, rfl⟩) | (go_at_call 27; refine (HT.out _).mono ?_; rintro e w1 ⟨rfl, rfl⟩))
  go_ret2
  exact ⟨rfl, bdn (ba (Below.refl _ _))⟩

set_option maxRecDepth 100000 in
set_option maxHeartbeats 4000000 in
theorem textG2 (k : Int) (t o : List UInt8) (n p : Int) (a : Option Addr) (ln cap : Nat) (w : World) (ht1 : t.length ≤ 100) (ho1 : o.length ≤ 100) (hk : (ln : Int) = kidsN k) (h25 : k ≠ 25) (ho : o = []) (hu : usesB k = true) (ht : isNameB t = false) :
    Calls Tryz.prog 29 #[.agg #[.int .i64 k, .string ⟨t.toArray⟩, .string ⟨o.toArray⟩, .int .i64 n, .int .i64 p, .slice a ln cap]] w fun e w' => e = .returned (.tuple #[.string ⟨#[]⟩, .bool false]) ∧ Below w.heap.size w w' := by
  have HK : Hid (∀ W : World, Calls Tryz.prog 61 #[.int .i64 k] W fun e w' => e = .returned (.int .i64 (ln : Int)) ∧ w' = W) := fun W => by have := refKids_any k W; rw [← hk] at this; exact this
  clear hk
  subst ho
  have hq := emp_yes
  have q25 : (k == 25) = false := by rw [beq_eq_false_iff_ne]; exact h25
  clear h25
  have HO : Hid (∀ W : World, Calls Tryz.prog 27 #[.string ⟨([] : List UInt8).toArray⟩] W fun e w' => e = .returned (.bool (isNameB [])) ∧ w' = W) := name_at [] _ ho1 rfl
  have HU : Hid (∀ W : World, Calls Tryz.prog 62 #[.int .i64 k] W fun e w' => e = .returned (.bool true) ∧ w' = W) := fun W => by have := refUses_any k W; rw [hu] at this; exact this
  clear hu
  have HT : Hid (∀ W : World, Calls Tryz.prog 27 #[.string ⟨t.toArray⟩] W fun e w' => e = .returned (.bool false) ∧ w' = W) := name_at t _ ht1 ht
  clear ht
  go_enter Tryz.func29, Tryz.ntmps29
  go_wp2_with fail
  go_quiet ((first | (go_at_call 61; exact Calls.quiet_of_same (HK.out _)) | (go_at_call 27; exact Calls.quiet_of_same (HO.out _))))
  go_wp2_with (first | (go_at_call 62; refine (HU.out _).mono ?_; rintro e w1 ⟨rfl, rfl⟩) | (go_at_call 27; refine (HT.out _).mono ?_; rintro e w1 ⟨rfl, rfl⟩))
  go_ret2
  exact ⟨rfl, bdn (ba (Below.refl _ _))⟩

set_option maxRecDepth 100000 in
set_option maxHeartbeats 4000000 in
theorem textI (k : Int) (t o : List UInt8) (n p : Int) (a : Option Addr) (ln cap : Nat) (w : World) (ht1 : t.length ≤ 100) (ho1 : o.length ≤ 100) (hk : (ln : Int) = kidsN k) (h25 : k ≠ 25) (ho : o = []) (hu : usesB k = false) (h21 : k ≠ 21) (h24 : k ≠ 24) (ht : t ≠ []) :
    Calls Tryz.prog 29 #[.agg #[.int .i64 k, .string ⟨t.toArray⟩, .string ⟨o.toArray⟩, .int .i64 n, .int .i64 p, .slice a ln cap]] w fun e w' => e = .returned (.tuple #[.string ⟨#[]⟩, .bool false]) ∧ Below w.heap.size w w' := by
  have HK : Hid (∀ W : World, Calls Tryz.prog 61 #[.int .i64 k] W fun e w' => e = .returned (.int .i64 (ln : Int)) ∧ w' = W) := fun W => by have := refKids_any k W; rw [← hk] at this; exact this
  clear hk
  subst ho
  have hq := emp_yes
  have q25 : (k == 25) = false := by rw [beq_eq_false_iff_ne]; exact h25
  clear h25
  have HO : Hid (∀ W : World, Calls Tryz.prog 27 #[.string ⟨([] : List UInt8).toArray⟩] W fun e w' => e = .returned (.bool (isNameB [])) ∧ w' = W) := name_at [] _ ho1 rfl
  have HU : Hid (∀ W : World, Calls Tryz.prog 62 #[.int .i64 k] W fun e w' => e = .returned (.bool false) ∧ w' = W) := fun W => by have := refUses_any k W; rw [hu] at this; exact this
  clear hu
  have HT : Hid (∀ W : World, Calls Tryz.prog 27 #[.string ⟨t.toArray⟩] W fun e w' => e = .returned (.bool (isNameB t)) ∧ w' = W) := name_at t _ ht1 rfl
  have q21 : (k != 21) = true := by rw [bne_iff_ne]; exact h21
  have q24 : (k != 24) = true := by rw [bne_iff_ne]; exact h24
  obtain ⟨ht2, ht3⟩ := emp_no ht
  clear ht h21 h24
  go_enter Tryz.func29, Tryz.ntmps29
  go_wp2_with fail
  go_quiet ((first | (go_at_call 61; exact Calls.quiet_of_same (HK.out _)) | (go_at_call 27; exact Calls.quiet_of_same (HO.out _))))
  go_wp2_with (first | (go_at_call 62; refine (HU.out _).mono ?_; rintro e w1 ⟨rfl, rfl⟩) | (go_at_call 27; refine (HT.out _).mono ?_; rintro e w1 ⟨rfl, rfl⟩))
  go_ret2
  exact ⟨rfl, bdn (ba (Below.refl _ _))⟩

set_option maxRecDepth 100000 in
set_option maxHeartbeats 4000000 in
theorem textM1 (t o : List UInt8) (n p : Int) (a : Option Addr) (ln cap : Nat) (w : World) (ht1 : t.length ≤ 100) (ho1 : o.length ≤ 100) (hk : (ln : Int) = kidsN 25) (ho : isNameB o = true) (ht : isNameB t = true) (hn : n ≠ 0) :
    Calls Tryz.prog 29 #[.agg #[.int .i64 25, .string ⟨t.toArray⟩, .string ⟨o.toArray⟩, .int .i64 n, .int .i64 p, .slice a ln cap]] w fun e w' => e = .returned (.tuple #[.string ⟨#[]⟩, .bool false]) ∧ Below w.heap.size w w' := by
  have HK : Hid (∀ W : World, Calls Tryz.prog 61 #[.int .i64 25] W fun e w' => e = .returned (.int .i64 (ln : Int)) ∧ w' = W) := fun W => by have := refKids_any 25 W; rw [← hk] at this; exact this
  clear hk
  have HO : Hid (∀ W : World, Calls Tryz.prog 27 #[.string ⟨o.toArray⟩] W fun e w' => e = .returned (.bool true) ∧ w' = W) := name_at o _ ho1 ho
  obtain ⟨hq, hq'⟩ := emp_no (name_ne ho)
  clear ho
  have hu : usesB 25 = true := rfl
  have HU : Hid (∀ W : World, Calls Tryz.prog 62 #[.int .i64 25] W fun e w' => e = .returned (.bool true) ∧ w' = W) := fun W => by have := refUses_any 25 W; rw [hu] at this; exact this
  clear hu
  have HT : Hid (∀ W : World, Calls Tryz.prog 27 #[.string ⟨t.toArray⟩] W fun e w' => e = .returned (.bool true) ∧ w' = W) := name_at t _ ht1 ht
  clear ht
  have q0 : (n != 0) = true := by rw [bne_iff_ne]; exact hn
  clear hn
  go_enter Tryz.func29, Tryz.ntmps29
  go_wp2_with fail
  go_quiet ((first | (go_at_call 61; exact Calls.quiet_of_same (HK.out _)) | (go_at_call 27; exact Calls.quiet_of_same (HO.out _))))
  go_wp2_with (first | (go_at_call 62; refine (HU.out _).mono ?_; rintro e w1 ⟨rfl, rfl⟩) | (go_at_call 27; refine (HT.out _).mono ?_; rintro e w1 ⟨rfl, rfl⟩))
  go_ret2
  exact ⟨rfl, bdn (ba (Below.refl _ _))⟩

set_option maxRecDepth 100000 in
set_option maxHeartbeats 4000000 in
theorem textM2 (k : Int) (t o : List UInt8) (n p : Int) (a : Option Addr) (ln cap : Nat) (w : World) (ht1 : t.length ≤ 100) (ho1 : o.length ≤ 100) (hk : (ln : Int) = kidsN k) (h25 : k ≠ 25) (ho : o = []) (hu : usesB k = true) (ht : isNameB t = true) (h1 : k ≠ 1) (h2 : k ≠ 2) (h24 : k ≠ 24) (hn : n ≠ 0) :
    Calls Tryz.prog 29 #[.agg #[.int .i64 k, .string ⟨t.toArray⟩, .string ⟨o.toArray⟩, .int .i64 n, .int .i64 p, .slice a ln cap]] w fun e w' => e = .returned (.tuple #[.string ⟨#[]⟩, .bool false]) ∧ Below w.heap.size w w' := by
  have HK : Hid (∀ W : World, Calls Tryz.prog 61 #[.int .i64 k] W fun e w' => e = .returned (.int .i64 (ln : Int)) ∧ w' = W) := fun W => by have := refKids_any k W; rw [← hk] at this; exact this
  clear hk
  subst ho
  have hq := emp_yes
  have q25 : (k == 25) = false := by rw [beq_eq_false_iff_ne]; exact h25
  clear h25
  have HO : Hid (∀ W : World, Calls Tryz.prog 27 #[.string ⟨([] : List UInt8).toArray⟩] W fun e w' => e = .returned (.bool (isNameB [])) ∧ w' = W) := name_at [] _ ho1 rfl
  have HU : Hid (∀ W : World, Calls Tryz.prog 62 #[.int .i64 k] W fun e w' => e = .returned (.bool true) ∧ w' = W) := fun W => by have := refUses_any k W; rw [hu] at this; exact this
  clear hu
  have HT : Hid (∀ W : World, Calls Tryz.prog 27 #[.string ⟨t.toArray⟩] W fun e w' => e = .returned (.bool true) ∧ w' = W) := name_at t _ ht1 ht
  clear ht
  have q0 : (n != 0) = true := by rw [bne_iff_ne]; exact hn
  clear hn
  have qq1 : (k != 1) = true := by rw [bne_iff_ne]; exact h1
  have qq2 : (k != 2) = true := by rw [bne_iff_ne]; exact h2
  have q24 : (k != 24) = true := by rw [bne_iff_ne]; exact h24
  clear h1 h2 h24
  go_enter Tryz.func29, Tryz.ntmps29
  go_wp2_with fail
  go_quiet ((first | (go_at_call 61; exact Calls.quiet_of_same (HK.out _)) | (go_at_call 27; exact Calls.quiet_of_same (HO.out _))))
  go_wp2_with (first | (go_at_call 62; refine (HU.out _).mono ?_; rintro e w1 ⟨rfl, rfl⟩) | (go_at_call 27; refine (HT.out _).mono ?_; rintro e w1 ⟨rfl, rfl⟩))
  go_ret2
  exact ⟨rfl, bdn (ba (Below.refl _ _))⟩

set_option maxRecDepth 100000 in
set_option maxHeartbeats 4000000 in
theorem textM3 (k : Int) (t o : List UInt8) (n p : Int) (a : Option Addr) (ln cap : Nat) (w : World) (ht1 : t.length ≤ 100) (ho1 : o.length ≤ 100) (hk : (ln : Int) = kidsN k) (h25 : k ≠ 25) (ho : o = []) (hu : usesB k = false) (h21 : k ≠ 21) (ht : t = []) (h1 : k ≠ 1) (h2 : k ≠ 2) (h24 : k ≠ 24) (hn : n ≠ 0) :
    Calls Tryz.prog 29 #[.agg #[.int .i64 k, .string ⟨t.toArray⟩, .string ⟨o.toArray⟩, .int .i64 n, .int .i64 p, .slice a ln cap]] w fun e w' => e = .returned (.tuple #[.string ⟨#[]⟩, .bool false]) ∧ Below w.heap.size w w' := by
  have HK : Hid (∀ W : World, Calls Tryz.prog 61 #[.int .i64 k] W fun e w' => e = .returned (.int .i64 (ln : Int)) ∧ w' = W) := fun W => by have := refKids_any k W; rw [← hk] at this; exact this
  clear hk
  subst ho
  have hq := emp_yes
  have q25 : (k == 25) = false := by rw [beq_eq_false_iff_ne]; exact h25
  clear h25
  have HO : Hid (∀ W : World, Calls Tryz.prog 27 #[.string ⟨([] : List UInt8).toArray⟩] W fun e w' => e = .returned (.bool (isNameB [])) ∧ w' = W) := name_at [] _ ho1 rfl
  have HU : Hid (∀ W : World, Calls Tryz.prog 62 #[.int .i64 k] W fun e w' => e = .returned (.bool false) ∧ w' = W) := fun W => by have := refUses_any k W; rw [hu] at this; exact this
  clear hu
  have q21 : (k != 21) = true := by rw [bne_iff_ne]; exact h21
  subst ht
  clear h21
  have HT : Hid (∀ W : World, Calls Tryz.prog 27 #[.string ⟨([] : List UInt8).toArray⟩] W fun e w' => e = .returned (.bool (isNameB [])) ∧ w' = W) := name_at [] _ ht1 rfl
  have q0 : (n != 0) = true := by rw [bne_iff_ne]; exact hn
  clear hn
  have qq1 : (k != 1) = true := by rw [bne_iff_ne]; exact h1
  have qq2 : (k != 2) = true := by rw [bne_iff_ne]; exact h2
  have q24 : (k != 24) = true := by rw [bne_iff_ne]; exact h24
  clear h1 h2 h24
  go_enter Tryz.func29, Tryz.ntmps29
  go_wp2_with fail
  go_quiet ((first | (go_at_call 61; exact Calls.quiet_of_same (HK.out _)) | (go_at_call 27; exact Calls.quiet_of_same (HO.out _))))
  go_wp2_with (first | (go_at_call 62; refine (HU.out _).mono ?_; rintro e w1 ⟨rfl, rfl⟩) | (go_at_call 27; refine (HT.out _).mono ?_; rintro e w1 ⟨rfl, rfl⟩))
  go_ret2
  exact ⟨rfl, bdn (ba (Below.refl _ _))⟩

set_option maxRecDepth 100000 in
set_option maxHeartbeats 4000000 in
theorem textM4 (t o : List UInt8) (n p : Int) (a : Option Addr) (ln cap : Nat) (w : World) (ht1 : t.length ≤ 100) (ho1 : o.length ≤ 100) (hk : (ln : Int) = kidsN 21) (ho : o = []) (hn : n ≠ 0) :
    Calls Tryz.prog 29 #[.agg #[.int .i64 21, .string ⟨t.toArray⟩, .string ⟨o.toArray⟩, .int .i64 n, .int .i64 p, .slice a ln cap]] w fun e w' => e = .returned (.tuple #[.string ⟨#[]⟩, .bool false]) ∧ Below w.heap.size w w' := by
  have HK : Hid (∀ W : World, Calls Tryz.prog 61 #[.int .i64 21] W fun e w' => e = .returned (.int .i64 (ln : Int)) ∧ w' = W) := fun W => by have := refKids_any 21 W; rw [← hk] at this; exact this
  clear hk
  subst ho
  have hq := emp_yes
  have HO : Hid (∀ W : World, Calls Tryz.prog 27 #[.string ⟨([] : List UInt8).toArray⟩] W fun e w' => e = .returned (.bool (isNameB [])) ∧ w' = W) := name_at [] _ ho1 rfl
  have hu : usesB 21 = false := rfl
  have HU : Hid (∀ W : World, Calls Tryz.prog 62 #[.int .i64 21] W fun e w' => e = .returned (.bool false) ∧ w' = W) := fun W => by have := refUses_any 21 W; rw [hu] at this; exact this
  clear hu
  have HT : Hid (∀ W : World, Calls Tryz.prog 27 #[.string ⟨t.toArray⟩] W fun e w' => e = .returned (.bool (isNameB t)) ∧ w' = W) := name_at t _ ht1 rfl
  have q0 : (n != 0) = true := by rw [bne_iff_ne]; exact hn
  clear hn
  go_enter Tryz.func29, Tryz.ntmps29
  go_wp2_with fail
  go_quiet ((first | (go_at_call 61; exact Calls.quiet_of_same (HK.out _)) | (go_at_call 27; exact Calls.quiet_of_same (HO.out _))))
  go_wp2_with (first | (go_at_call 62; refine (HU.out _).mono ?_; rintro e w1 ⟨rfl, rfl⟩) | (go_at_call 27; refine (HT.out _).mono ?_; rintro e w1 ⟨rfl, rfl⟩))
  go_ret2
  exact ⟨rfl, bdn (ba (Below.refl _ _))⟩

theorem txt_bad {P : World → Prop} {x : Px} {v : Value} {w : World} (h : Calls Tryz.prog 29 #[v] w fun e w' => e = .returned (.tuple #[.string ⟨#[]⟩, .bool false]) ∧ P w') (hx : wfX x = false) : Calls Tryz.prog 29 #[v] w fun e w' => TxtR x e ∧ P w' :=
  h.mono (by rintro e w' ⟨rfl, hb⟩; exact ⟨txt_no hx, hb⟩)
theorem node_t {k n : Int} {t o : List UInt8} {l : List Px} (h : textB k t n = false) : nodeB k t o n l = false := by unfold nodeB; rw [h]; simp
theorem node_o {k n : Int} {t o : List UInt8} {l : List Px} (h : otherB k o = false) : nodeB k t o n l = false := by unfold nodeB; rw [h]; simp
theorem node_n {k n : Int} {t o : List UInt8} {l : List Px} (h : numB k n = false) : nodeB k t o n l = false := by unfold nodeB; rw [h]; simp
theorem node_l {k n : Int} {t o : List UInt8} {l : List Px} (h : (l.length : Int) ≠ kidsN k) : nodeB k t o n l = false := by
  have : (((l.length : Int)) == kidsN k) = false := by rw [beq_eq_false_iff_ne]; exact h
  unfold nodeB; rw [this]; simp
/-- The document's text of an expression. -/
theorem refText_any (N : Nat) : ∀ (x : Px) (v : Value) (hi : Nat) (w : World), szX x ≤ N → hi ≤ w.heap.size → PxV hi w v x → shortX x = true → szX x ≤ 2000 →
    Calls Tryz.prog 29 #[v] w fun e w' => TxtR x e ∧ Below w.heap.size w w' := by
  induction N with
  | zero => intro x v hi w h; have := szX_pos x; omega
  | succ N ih =>
    intro x v hi w hN hhi hx hsh hz
    obtain ⟨a, cap, rfl, hcap, hlen, hab⟩ := hx.row
    obtain ⟨k, t, o, n, p, l⟩ := x
    simp only [Px.kids, Px.text, Px.other, Px.kind, Px.n, Px.pl, pv] at *
    have hsh' : t.length ≤ 100 ∧ o.length ≤ 100 ∧ ∀ y ∈ l, shortX y = true := by
      rw [shortX, shortXL_all] at hsh
      simp only [Bool.and_eq_true, decide_eq_true_iff, List.all_eq_true] at hsh
      exact ⟨hsh.1.1, hsh.1.2, hsh.2⟩
    obtain ⟨ht1, ho1, hks⟩ := hsh'
    have hzl : szXL l ≤ 2000 := by simp only [szX] at hz; omega
    have K : Hid (TxtK hi w l a) := ⟨hab, hhi, fun j y u W hj hK hu => ih y u hi W (by have := szXL_mem _ j y hj; simp only [szX] at hN; omega) (Nat.le_trans hhi hK.size) hu (hks y (List.mem_of_getElem? hj)) (by have := szXL_mem _ j y hj; omega)⟩
    by_cases hk : (l.length : Int) = kidsN k
    case neg => exact txt_bad (textF1 k t o n p a l.length cap w ht1 ho1 hk) (wf_node_no (node_l hk))
    by_cases h25 : k = 25
    · subst h25
      by_cases hoe : o = []
      · exact txt_bad (textF2 t o n p a l.length cap w ht1 ho1 hk hoe) (wf_node_no (node_o (by rw [hoe]; decide)))
      cases ho : isNameB o with
      | false => exact txt_bad (textF4 t o n p a l.length cap w ht1 ho1 hk hoe ho) (wf_node_no (node_o (by unfold otherB; rw [if_pos (by decide), ho])))
      | true =>
        cases ht : isNameB t with
        | false => exact txt_bad (textG1 t o n p a l.length cap w ht1 ho1 hk ho ht) (wf_node_no (node_t (by unfold textB; rw [if_pos (by decide), ht])))
        | true =>
          by_cases hn : n = 0
          · subst hn
            have hl : l.length = 2 := by have e : (l.length : Int) = 2 := hk.trans (by decide); omega
            have := refText_25 t o p l a cap hi w K hl ht1 ho1 hzl ho ht
            rw [hl]; exact this
          · exact txt_bad (textM1 t o n p a l.length cap w ht1 ho1 hk ho ht hn) (wf_node_no (node_n (by unfold numB; rw [if_neg (by decide), if_neg (by decide), if_neg (by decide), beq_eq_false_iff_ne]; exact hn)))
    by_cases hoe : o = []
    case neg => exact txt_bad (textF3 k t o n p a l.length cap w ht1 ho1 hk h25 hoe) (wf_node_no (node_o (by unfold otherB; rw [if_neg (by rw [beq_iff_eq]; exact h25), beq_eq_false_iff_ne]; exact hoe)))
    have hr : 1 ≤ k ∧ k ≤ 25 := by
      apply Classical.byContradiction
      intro hc
      have := kidsN_out (k := k) (by omega)
      omega
    have numF : k ≠ 1 → k ≠ 2 → k ≠ 24 → n ≠ 0 → numB k n = false := fun h1 h2 h3 h4 => by
      unfold numB; rw [if_neg (by rw [beq_iff_eq]; exact h1), if_neg (by rw [beq_iff_eq]; exact h2), if_neg (by rw [beq_iff_eq]; exact h3), beq_eq_false_iff_ne]; exact h4
    cases hu : usesB k with
    | true =>
      cases ht : isNameB t with
      | false => exact txt_bad (textG2 k t o n p a l.length cap w ht1 ho1 hk h25 hoe hu ht) (wf_node_no (node_t (by unfold textB; rw [if_pos hu, ht])))
      | true =>
        by_cases hn : n = 0
        case neg =>
          have h1 : k ≠ 1 := fun e => by rw [e] at hu; exact absurd hu (by decide)
          have h2 : k ≠ 2 := fun e => by rw [e] at hu; exact absurd hu (by decide)
          have h3 : k ≠ 24 := fun e => by rw [e] at hu; exact absurd hu (by decide)
          exact txt_bad (textM2 k t o n p a l.length cap w ht1 ho1 hk h25 hoe hu ht h1 h2 h3 hn) (wf_node_no (node_n (numF h1 h2 h3 hn)))
        subst hn
        rcases kinds25 hr.1 hr.2 with rfl | rfl | rfl | rfl | rfl | rfl | rfl | rfl | rfl | rfl | rfl | rfl | rfl | rfl | rfl | rfl | rfl | rfl | rfl | rfl | rfl | rfl | rfl | rfl | rfl <;> first | exact absurd hu (by decide) | exact absurd rfl h25 | skip
        · have hl : l.length = 0 := by have e : (l.length : Int) = 0 := hk.trans (by decide); omega
          rw [hl]; exact refText_4 t o p l a cap hi w K hl ht1 ho1 hzl ht hoe
        · have hl : l.length = 2 := by have e : (l.length : Int) = 2 := hk.trans (by decide); omega
          rw [hl]; exact refText_5 t o p l a cap hi w K hl ht1 ho1 hzl ht hoe
        · have hl : l.length = 1 := by have e : (l.length : Int) = 1 := hk.trans (by decide); omega
          rw [hl]; exact refText_7 t o p l a cap hi w K hl ht1 ho1 hzl ht hoe
        · have hl : l.length = 0 := by have e : (l.length : Int) = 0 := hk.trans (by decide); omega
          rw [hl]; exact refText_10 t o p l a cap hi w K hl ht1 ho1 hzl ht hoe
        · have hl : l.length = 1 := by have e : (l.length : Int) = 1 := hk.trans (by decide); omega
          rw [hl]; exact refText_11 t o p l a cap hi w K hl ht1 ho1 hzl ht hoe
        · have hl : l.length = 1 := by have e : (l.length : Int) = 1 := hk.trans (by decide); omega
          rw [hl]; exact refText_12 t o p l a cap hi w K hl ht1 ho1 hzl ht hoe
        · have hl : l.length = 2 := by have e : (l.length : Int) = 2 := hk.trans (by decide); omega
          rw [hl]; exact refText_13 t o p l a cap hi w K hl ht1 ho1 hzl ht hoe
        · have hl : l.length = 1 := by have e : (l.length : Int) = 1 := hk.trans (by decide); omega
          rw [hl]; exact refText_14 t o p l a cap hi w K hl ht1 ho1 hzl ht hoe
        · have hl : l.length = 1 := by have e : (l.length : Int) = 1 := hk.trans (by decide); omega
          rw [hl]; exact refText_15 t o p l a cap hi w K hl ht1 ho1 hzl ht hoe
        · have hl : l.length = 2 := by have e : (l.length : Int) = 2 := hk.trans (by decide); omega
          rw [hl]; exact refText_16 t o p l a cap hi w K hl ht1 ho1 hzl ht hoe
    | false =>
      by_cases h21 : k = 21
      · subst h21
        have hl : l.length = 2 := by have e : (l.length : Int) = 2 := hk.trans (by decide); omega
        by_cases hn : n = 0
        · subst hn
          rw [hl]; exact refText_21 t o p l a cap hi w K hl ht1 ho1 hzl hoe
        · exact txt_bad (textM4 t o n p a l.length cap w ht1 ho1 hk hoe hn) (wf_node_no (node_n (numF (by decide) (by decide) (by decide) hn)))
      by_cases h24 : k = 24
      · subst h24
        have hl : l.length = 3 := by have e : (l.length : Int) = 3 := hk.trans (by decide); omega
        by_cases hn : n = 0
        · subst hn
          rw [hl]; exact refText_24z t o p l a cap hi w K hl ht1 ho1 hzl hoe
        · rw [hl]; exact refText_24n t o n p l a cap hi w K hl ht1 ho1 hzl hn hoe
      by_cases hte : t = []
      case neg => exact txt_bad (textI k t o n p a l.length cap w ht1 ho1 hk h25 hoe hu h21 h24 hte) (wf_node_no (node_t (by unfold textB; rw [hu, if_neg (by decide), if_neg (by rw [beq_iff_eq]; exact h21), if_neg (by rw [Bool.and_eq_true, beq_iff_eq]; exact fun h => h24 h.1), beq_eq_false_iff_ne]; exact hte)))
      by_cases hn : n = 0
      case neg =>
        by_cases h1 : k = 1
        · subst h1
          have hl : l.length = 0 := by have e : (l.length : Int) = 0 := hk.trans (by decide); omega
          rw [hl]; exact refText_1n t o n p l a cap hi w K hl ht1 ho1 hzl hte hn hoe
        by_cases h2 : k = 2
        · subst h2
          have hl : l.length = 0 := by have e : (l.length : Int) = 0 := hk.trans (by decide); omega
          rw [hl]; exact refText_2n t o n p l a cap hi w K hl ht1 ho1 hzl hte hn hoe
        exact txt_bad (textM3 k t o n p a l.length cap w ht1 ho1 hk h25 hoe hu h21 hte h1 h2 h24 hn) (wf_node_no (node_n (numF h1 h2 h24 hn)))
      subst hn
      rcases kinds25 hr.1 hr.2 with rfl | rfl | rfl | rfl | rfl | rfl | rfl | rfl | rfl | rfl | rfl | rfl | rfl | rfl | rfl | rfl | rfl | rfl | rfl | rfl | rfl | rfl | rfl | rfl | rfl <;> first | exact absurd hu (by decide) | exact absurd rfl h25 | exact absurd rfl h21 | exact absurd rfl h24 | skip
      · have hl : l.length = 0 := by have e : (l.length : Int) = 0 := hk.trans (by decide); omega
        rw [hl]; exact refText_1z t o p l a cap hi w K hl ht1 ho1 hzl hte hoe
      · have hl : l.length = 0 := by have e : (l.length : Int) = 0 := hk.trans (by decide); omega
        rw [hl]; exact refText_2z t o p l a cap hi w K hl ht1 ho1 hzl hte hoe
      · have hl : l.length = 0 := by have e : (l.length : Int) = 0 := hk.trans (by decide); omega
        rw [hl]; exact refText_3 t o p l a cap hi w K hl ht1 ho1 hzl hte hoe
      · have hl : l.length = 3 := by have e : (l.length : Int) = 3 := hk.trans (by decide); omega
        rw [hl]; exact refText_6 t o p l a cap hi w K hl ht1 ho1 hzl hte hoe
      · have hl : l.length = 2 := by have e : (l.length : Int) = 2 := hk.trans (by decide); omega
        rw [hl]; exact refText_8 t o p l a cap hi w K hl ht1 ho1 hzl hte hoe
      · have hl : l.length = 2 := by have e : (l.length : Int) = 2 := hk.trans (by decide); omega
        rw [hl]; exact refText_9 t o p l a cap hi w K hl ht1 ho1 hzl hte hoe
      · have hl : l.length = 1 := by have e : (l.length : Int) = 1 := hk.trans (by decide); omega
        rw [hl]; exact refText_17 t o p l a cap hi w K hl ht1 ho1 hzl hte hoe
      · have hl : l.length = 0 := by have e : (l.length : Int) = 0 := hk.trans (by decide); omega
        rw [hl]; exact refText_18 t o p l a cap hi w K hl ht1 ho1 hzl hte hoe
      · have hl : l.length = 1 := by have e : (l.length : Int) = 1 := hk.trans (by decide); omega
        rw [hl]; exact refText_19 t o p l a cap hi w K hl ht1 ho1 hzl hte hoe
      · have hl : l.length = 2 := by have e : (l.length : Int) = 2 := hk.trans (by decide); omega
        rw [hl]; exact refText_20 t o p l a cap hi w K hl ht1 ho1 hzl hte hoe
      · have hl : l.length = 2 := by have e : (l.length : Int) = 2 := hk.trans (by decide); omega
        rw [hl]; exact refText_22 t o p l a cap hi w K hl ht1 ho1 hzl hte hoe
      · have hl : l.length = 2 := by have e : (l.length : Int) = 2 := hk.trans (by decide); omega
        rw [hl]; exact refText_23 t o p l a cap hi w K hl ht1 ho1 hzl hte hoe
end Go.Proofs.YtkljakeccfnakaaGreatDoor
