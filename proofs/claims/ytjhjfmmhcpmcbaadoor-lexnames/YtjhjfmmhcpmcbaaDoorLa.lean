/-
  The walks of the program's own small functions of layer 4: which byte it is, how far bytes of a kind go, the words of the language.
-/
import Derived.Test.YtjhjfmmhcpmcbaaDoorB
import Derived.Test.YtjhjfmmhcpmcbaaDoorN
namespace Go.Proofs.YtjhjfmmhcpmcbaaDoor
open Go.RowKit

set_option maxHeartbeats 400000 in
theorem isLetter_any (c : UInt8) (w : World) :
    Calls Tryd.prog 22 #[.int .u8 (c.toNat : Int)] w fun e w' => e = .returned (.bool (small c)) ∧ w' = w := by
  unfold small
  generalize c.toNat = n
  by_cases h : 97 ≤ n
  · have h' : (97 : Int) ≤ (n : Int) := by omega
    go_enter Tryd.func22, Tryd.ntmps22
    go_wp2
    go_ret
    exact ⟨ret_bool (by first | rfl | (rw [Bool.eq_iff_iff]; first | done | (simp; done) | (simp; omega))), rfl⟩
  · have h' : ¬ (97 : Int) ≤ (n : Int) := by omega
    go_enter Tryd.func22, Tryd.ntmps22
    go_wp2
    go_ret
    exact ⟨ret_bool (by first | rfl | (rw [Bool.eq_iff_iff]; first | done | (simp; done) | (simp; omega))), rfl⟩
set_option maxHeartbeats 400000 in
theorem isDigit_any (c : UInt8) (w : World) :
    Calls Tryd.prog 28 #[.int .u8 (c.toNat : Int)] w fun e w' => e = .returned (.bool (digit c)) ∧ w' = w := by
  unfold digit
  generalize c.toNat = n
  by_cases h : 48 ≤ n
  · have h' : (48 : Int) ≤ (n : Int) := by omega
    go_enter Tryd.func28, Tryd.ntmps28
    go_wp2
    go_ret
    exact ⟨ret_bool (by first | rfl | (rw [Bool.eq_iff_iff]; first | done | (simp; done) | (simp; omega))), rfl⟩
  · have h' : ¬ (48 : Int) ≤ (n : Int) := by omega
    go_enter Tryd.func28, Tryd.ntmps28
    go_wp2
    go_ret
    exact ⟨ret_bool (by first | rfl | (rw [Bool.eq_iff_iff]; first | done | (simp; done) | (simp; omega))), rfl⟩

set_option maxHeartbeats 2000000 in
theorem nameEnd_any (s : ByteArray) (at0 : Nat) (h0 : at0 ≤ s.size) (w : World) (hs : s.size ≤ 140737488351232) :
    Calls Tryd.prog 23 #[.string s, .int .i64 (at0 : Int)] w fun e w' => e = .returned (.int .i64 (upTo nameC s.data.toList at0 : Nat)) ∧ w' = w := by
  go_enter Tryd.func23, Tryd.ntmps23
  go_wp2
  go_loopw [1] (fun t wr => ∃ (i : Nat), i ≤ s.size ∧ t = .int .i64 i ∧ Hid (upTo nameC s.data.toList i = upTo nameC s.data.toList at0) ∧ wr = w) (fun t _ => s.size - (intOf t).toNat)
  case atStart => exact ⟨at0, h0, rfl, rfl, rfl⟩
  case round =>
    obtain ⟨i, hi, rfl, hn, rfl⟩ := hrel
    by_cases c : i < s.size
    · have c' : (i : Int) < (s.size : Int) := by omega
      obtain ⟨ch, hch, hl⟩ := byte_at s c
      have HL : Hid (s.data.toList[i]? = some ch) := hl
      clear hl
      cases q1 : small ch
      · cases q2 : digit ch
        · have E : Hid (upTo nameC s.data.toList i = i) := upTo_stop HL.out (by unfold nameC; rw [q1, q2]; rfl)
          go_wp2_with (first | (go_at_call 22; refine (isLetter_any _ _).mono ?_; rintro e w' ⟨rfl, rfl⟩) | (go_at_call 28; refine (isDigit_any _ _).mono ?_; rintro e w' ⟨rfl, rfl⟩))
          go_ret
          exact ⟨ret_int (by rw [← hn.out, E.out]), rfl⟩
        · go_wp2_with (first | (go_at_call 22; refine (isLetter_any _ _).mono ?_; rintro e w' ⟨rfl, rfl⟩) | (go_at_call 28; refine (isDigit_any _ _).mono ?_; rintro e w' ⟨rfl, rfl⟩))
          go_roundw
          case rel => exact ⟨i + 1, by omega, by go_num, (upTo_step HL.out (by unfold nameC; rw [q1, q2]; rfl)).trans hn.out, by first | rfl | trivial⟩
          case measure => simp [intOf]; omega
      · go_wp2_with (first | (go_at_call 22; refine (isLetter_any _ _).mono ?_; rintro e w' ⟨rfl, rfl⟩) | (go_at_call 28; refine (isDigit_any _ _).mono ?_; rintro e w' ⟨rfl, rfl⟩))
        go_roundw
        case rel => exact ⟨i + 1, by omega, by go_num, (upTo_step HL.out (by unfold nameC; rw [q1]; rfl)).trans hn.out, by first | rfl | trivial⟩
        case measure => simp [intOf]; omega
    · have c' : ¬ (i : Int) < (s.size : Int) := by omega
      have E : Hid (upTo nameC s.data.toList i = i) := upTo_end (by rw [← Lib.size_eq]; omega)
      go_wp2_with fail
      go_ret
      exact ⟨ret_int (by rw [← hn.out, E.out]), rfl⟩

set_option maxHeartbeats 2000000 in
theorem digitsEnd_any (s : ByteArray) (at0 : Nat) (h0 : at0 ≤ s.size) (w : World) (hs : s.size ≤ 140737488351232) :
    Calls Tryd.prog 34 #[.string s, .int .i64 (at0 : Int)] w fun e w' => e = .returned (.int .i64 (upTo digit s.data.toList at0 : Nat)) ∧ w' = w := by
  go_enter Tryd.func34, Tryd.ntmps34
  go_wp2
  go_loopw [1] (fun t wr => ∃ (i : Nat), i ≤ s.size ∧ t = .int .i64 i ∧ Hid (upTo digit s.data.toList i = upTo digit s.data.toList at0) ∧ wr = w) (fun t _ => s.size - (intOf t).toNat)
  case atStart => exact ⟨at0, h0, rfl, rfl, rfl⟩
  case round =>
    obtain ⟨i, hi, rfl, hn, rfl⟩ := hrel
    by_cases c : i < s.size
    · have c' : (i : Int) < (s.size : Int) := by omega
      obtain ⟨ch, hch, hl⟩ := byte_at s c
      have HL : Hid (s.data.toList[i]? = some ch) := hl
      clear hl
      cases q2 : digit ch
      · have E : Hid (upTo digit s.data.toList i = i) := upTo_stop HL.out q2
        go_wp2_with (go_at_call 28; refine (isDigit_any _ _).mono ?_; rintro e w' ⟨rfl, rfl⟩)
        go_ret
        exact ⟨ret_int (by rw [← hn.out, E.out]), rfl⟩
      · go_wp2_with (go_at_call 28; refine (isDigit_any _ _).mono ?_; rintro e w' ⟨rfl, rfl⟩)
        go_roundw
        case rel => exact ⟨i + 1, by omega, by go_num, (upTo_step HL.out q2).trans hn.out, by first | rfl | trivial⟩
        case measure => simp [intOf]; omega
    · have c' : ¬ (i : Int) < (s.size : Int) := by omega
      have E : Hid (upTo digit s.data.toList i = i) := upTo_end (by rw [← Lib.size_eq]; omega)
      go_wp2_with fail
      go_ret
      exact ⟨ret_int (by rw [← hn.out, E.out]), rfl⟩
end Go.Proofs.YtjhjfmmhcpmcbaaDoor
