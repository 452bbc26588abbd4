/-
  Names, and the numbers that digits tell: the walks of the program's IsName and of the library's Atoi at digits.
-/
import Derived.Test.YtjhjfmmhcpmcbaaDoorLb
import Derived.Lib.ConvBytes
import Derived.Lib.SmallJoins
namespace Go.Proofs.YtjhjfmmhcpmcbaaDoor
open Go.RowKit

theorem upTo_all (l : List UInt8) : (upTo nameC l 0 = l.length) ↔ l.all nameC = true := by
  unfold upTo
  rw [List.drop_zero, Nat.zero_add]
  induction l with
  | nil => simp
  | cons c r ih =>
    by_cases h : nameC c = true
    · rw [List.takeWhile_cons_of_pos h, List.length_cons, List.length_cons, List.all_cons, h, Bool.true_and, ← ih]
      omega
    · rw [List.takeWhile_cons_of_neg h, List.all_cons]
      rw [Bool.not_eq_true] at h
      rw [h]; simp

set_option maxHeartbeats 2000000 in
theorem isName_any (s : ByteArray) (w : World) (hs : s.size ≤ 140737488351232) :
    Calls Tryd.prog 12 #[.string s] w fun e w' => e = .returned (.bool (isNameB s.data.toList)) ∧ w' = w := by
  by_cases c0 : s.size = 0
  · have e0 : s.data.toList = [] := List.eq_nil_of_length_eq_zero (by rw [← Lib.size_eq]; exact c0)
    have hq : (s.toList == []) = true := by rw [Lib.toList_data, e0]; rfl
    have N : Hid (isNameB s.data.toList = false) := by show isNameB s.data.toList = false; rw [e0]; rfl
    clear e0
    go_enter Tryd.func12, Tryd.ntmps12
    go_wp2_with fail
    go_ret
    exact ⟨ret_bool (by rw [N.out]), rfl⟩
  · have hp : 0 < s.size := by omega
    have hq : (s.toList == []) = false := by
      rw [Lib.toList_data, beq_eq_false_iff_ne]
      intro e; rw [Lib.size_eq, e] at c0; exact c0 rfl
    obtain ⟨ch, hch, hl⟩ := byte_at s hp
    have HL : Hid (s.data.toList[0]? = some ch) := hl
    have F : Hid (firstB s.data.toList = small ch) := by show firstB s.data.toList = small ch; unfold firstB; rw [hl]; rfl
    clear hl
    by_cases c1 : s.size ≤ 16
    · have c1' : (s.size : Int) ≤ 16 := by omega
      cases q1 : small ch
      · go_enter Tryd.func12, Tryd.ntmps12
        go_wp2_with (go_at_call 22; refine (isLetter_any _ _).mono ?_; rintro e w' ⟨rfl, rfl⟩)
        go_ret
        exact ⟨ret_bool (by unfold isNameB; rw [F.out, q1]; rfl), rfl⟩
      · by_cases c2 : upTo nameC s.data.toList 0 = s.size
        · have c2' : ((upTo nameC s.data.toList 0 : Int) == (s.size : Int)) = true := by rw [beq_iff_eq]; omega
          go_enter Tryd.func12, Tryd.ntmps12
          go_wp2_with (first | (go_at_call 22; refine (isLetter_any _ _).mono ?_; rintro e w' ⟨rfl, rfl⟩) | (go_at_call 23; refine (nameEnd_any _ 0 (Nat.zero_le _) _ hs).mono ?_; rintro e w' ⟨rfl, rfl⟩) | (go_at_call 24; refine (isKey_any _ _).mono ?_; rintro e w' ⟨rfl, rfl⟩))
          go_ret
          exact ⟨ret_bool (by unfold isNameB; rw [F.out, q1, (upTo_all _).1 (by rw [c2, Lib.size_eq]), ← Lib.size_eq, decide_eq_true c1]; rfl), rfl⟩
        · have c2' : ((upTo nameC s.data.toList 0 : Int) == (s.size : Int)) = false := by rw [beq_eq_false_iff_ne]; omega
          go_enter Tryd.func12, Tryd.ntmps12
          go_wp2_with (first | (go_at_call 22; refine (isLetter_any _ _).mono ?_; rintro e w' ⟨rfl, rfl⟩) | (go_at_call 23; refine (nameEnd_any _ 0 (Nat.zero_le _) _ hs).mono ?_; rintro e w' ⟨rfl, rfl⟩) | (go_at_call 24; refine (isKey_any _ _).mono ?_; rintro e w' ⟨rfl, rfl⟩))
          go_ret
          refine ⟨ret_bool ?_, rfl⟩
          have A : s.data.toList.all nameC = false := by
            rw [← Bool.not_eq_true, ← upTo_all, ← Lib.size_eq]; exact c2
          unfold isNameB; rw [A, Bool.and_false, Bool.false_and, Bool.false_and]
    · have c1' : ¬ (s.size : Int) ≤ 16 := by omega
      go_enter Tryd.func12, Tryd.ntmps12
      go_wp2_with fail
      go_ret
      exact ⟨ret_bool (by unfold isNameB; rw [← Lib.size_eq, decide_eq_false c1, Bool.and_false, Bool.false_and]), rfl⟩

theorem digit_bounds {c : UInt8} (h : digit c = true) : 48 ≤ c.toNat ∧ c.toNat ≤ 57 := by
  unfold digit at h
  simpa [Bool.and_eq_true, decide_eq_true_iff] using h
theorem numV_take {l : List UInt8} {k : Nat} {c : UInt8} (h : l[k]? = some c) : numV (l.take (k + 1)) = 10 * numV (l.take k) + (c.toNat - 48) := by
  rw [← numV_add, List.take_add_one, h]; rfl
theorem numV_take_le {l : List UInt8} {k : Nat} (h : l.length ≤ 9) : numV (l.take k) ≤ 23000000000 := by
  have h1 := numV_le _ (l.take k) rfl
  have h2 : 10 ^ (l.take k).length ≤ 10 ^ 9 := Nat.pow_le_pow_right (by omega) (by rw [List.length_take]; omega)
  have h3 : 10 ^ 9 = 1000000000 := by decide
  omega

set_option maxHeartbeats 4000000 in
theorem innerAtoi_any (s : ByteArray) (w : World) (h1 : 1 ≤ s.size) (h9 : s.size ≤ 9) (hd : ∀ c ∈ s.data.toList, digit c = true) :
    Calls Tryd.prog 38 #[.string s] w fun e w' => e = .returned (.tuple #[.int .i64 (numV s.data.toList : Nat), .nilIface]) ∧ Below w.heap.size w w' := by
  have hp : 0 < s.size := by omega
  obtain ⟨ch, hch, hl⟩ := byte_at s hp
  have hb := digit_bounds (hd ch (List.mem_of_getElem? hl))
  have n1 : ((ch.toNat : Int) == 45) = false := by rw [beq_eq_false_iff_ne]; omega
  have n2 : ((ch.toNat : Int) == 43) = false := by rw [beq_eq_false_iff_ne]; omega
  have HD : Hid (∀ c ∈ s.data.toList, digit c = true) := hd
  clear hl hd hb
  have hcv := Lib.run_convert_string_bytes (P := Tryd.prog) w 9 33 5 s (u := .string) Tryd.underlying9 Tryd.underlying33 Tryd.underlying5
  have hB : ∀ j, j < s.size → (Lib.bytesWorld w 5 s).cell? ⟨w.heap.size, j, none⟩ = some (.int .u8 (s.data.toList.getD j 0).toNat) := fun j hj => Lib.bytesWorld_cell w 5 s j hj
  have hbel : Below w.heap.size w (Lib.bytesWorld w 5 s) := Joins.below_bytesWorld _ w 5 s (Nat.le_refl _)
  obtain ⟨W1, hW1⟩ : ∃ W1, W1 = Lib.bytesWorld w 5 s := ⟨_, rfl⟩
  rw [← hW1] at hcv hB hbel
  have HB : Hid (∀ j, j < s.size → W1.cell? ⟨w.heap.size, j, none⟩ = some (.int .u8 (s.data.toList.getD j 0).toNat)) := hB
  have BEL : Hid (Below w.heap.size w W1) := hbel
  clear hW1 hB hbel
  have L1 : (1 : Int) ≤ (s.size : Int) := by omega
  have L9 : (s.size : Int) < 19 := by omega
  have L0 : (0 : Int) < (s.size : Int) := by omega
  go_enter Tryd.func38, Tryd.ntmps38
  go_wp2
  go_loop [49, 6] (fun vi vn => ∃ (k : Nat), k ≤ s.size ∧ vi = .int .i64 k ∧ ∃ a : Nat, vn = .int .i64 a ∧ Hid (a = numV (s.data.toList.take k))) (fun vi _ => s.size - (RowKit.intOf vi).toNat)
  case atStart => exact ⟨0, Nat.zero_le _, rfl, 0, rfl, rfl⟩
  case round =>
    obtain ⟨k, hk, rfl, a, rfl, ha⟩ := hrel
    have hab : a ≤ 23000000000 := by rw [ha.out]; exact numV_take_le (by rw [← Lib.size_eq]; exact h9)
    by_cases hkn : k < s.size
    · obtain ⟨x, hx⟩ : ∃ x, x = s.data.toList.getD k 0 := ⟨_, rfl⟩
      have hxk : s.data.toList[k]? = some x := by
        rw [hx, List.getD, List.getElem?_eq_getElem (by rw [← Lib.size_eq]; exact hkn)]
        rfl
      have hc1 : W1.cell? ⟨w.heap.size, k, none⟩ = some (.int .u8 x.toNat) := by rw [hx]; exact HB.out k hkn
      have hdx := digit_bounds (HD.out x (List.mem_of_getElem? hxk))
      have Hxk : Hid (s.data.toList[k]? = some x) := hxk
      obtain ⟨b0, b1⟩ := hdx
      have b9 : ¬ (9 : Int) < (x.toNat : Int) - 48 := by omega
      clear hx hxk
      go_wp2
      go_round
      case rel => exact ⟨k + 1, by omega, by go_num, 10 * a + (x.toNat - 48), by first | go_num | (congr 1; omega), by
        show 10 * a + (x.toNat - 48) = numV (s.data.toList.take (k + 1))
        rw [numV_take Hxk.out, ← ha.out]⟩
      case measure => simp [RowKit.intOf]; omega
    · have hke : k = s.size := by omega
      subst hke
      have HA : Hid (a = numV s.data.toList) := by
        have := ha.out
        rwa [List.take_of_length_le (by rw [← Lib.size_eq]; exact Nat.le_refl _)] at this
      go_wp2
      go_ret2
      exact ⟨by rw [← HA.out]; rfl, BEL.out⟩

set_option maxHeartbeats 1000000 in
theorem atoi_any (s : ByteArray) (w : World) (h1 : 1 ≤ s.size) (h9 : s.size ≤ 9) (hd : ∀ c ∈ s.data.toList, digit c = true) :
    Calls Tryd.prog 35 #[.string s] w fun e w' => e = .returned (.tuple #[.int .i64 (numV s.data.toList : Nat), .nilIface]) ∧ Below w.heap.size w w' := by
  have HD : Hid (∀ c ∈ s.data.toList, digit c = true) := hd
  clear hd
  go_enter Tryd.func35, Tryd.ntmps35
  go_wp2_with (go_at_call 38; refine (innerAtoi_any _ _ h1 h9 HD.out).mono ?_; rintro e w' ⟨rfl, hb⟩)
  go_ret2
  exact ⟨rfl, hb⟩
end Go.Proofs.YtjhjfmmhcpmcbaaDoor
