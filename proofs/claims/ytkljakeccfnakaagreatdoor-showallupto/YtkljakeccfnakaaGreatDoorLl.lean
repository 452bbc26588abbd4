/-
  The walks of the program's own small functions of layer 4: which byte it is, how far bytes of a kind go, the words of the language.
  The walks of the program's own functions of layer 4 on words of the language, ends of lines, blanks and signs.
  Names, and the numbers that digits tell: the walks of the program's IsName and of the library's Atoi at digits.
  The walks of the program's readers of one word: a name, a number, a sign.
  The walks of the program's reader of a number, to its end, and of its reader of a word.
  The program's reader of a word answers as the step at that place says.
  The walk of the library's strings.Clone: the same bytes, in memory of their own.
-/
import Derived.Test.YtkljakeccfnakaaGreatDoorMm
import Derived.Laws.Externs
import Derived.Lib.Bytealg
import Derived.Lib.IndexBytes
import Derived.Lib.ConvBytes
import Derived.Lib.SmallJoins
import Derived.Lib.Walk
import Derived.Lib.BufferWrite
import Derived.Lib.UnsafeStr
import Derived.Laws.MakeOwn
namespace Go.Proofs.YtkljakeccfnakaaGreatDoor
open Go.RowKit

set_option maxHeartbeats 400000 in
theorem isLetter_any (c : UInt8) (w : World) :
    Calls Tryz.prog 94 #[.int .u8 (c.toNat : Int)] w fun e w' => e = .returned (.bool (small c)) ∧ w' = w := by
  unfold small
  generalize c.toNat = n
  by_cases h : 97 ≤ n
  · have h' : (97 : Int) ≤ (n : Int) := by omega
    go_enter Tryz.func94, Tryz.ntmps94
    go_wp2
    go_ret
    exact ⟨ret_bool (by first | rfl | (rw [Bool.eq_iff_iff]; first | done | (simp; done) | (simp; omega))), rfl⟩
  · have h' : ¬ (97 : Int) ≤ (n : Int) := by omega
    go_enter Tryz.func94, Tryz.ntmps94
    go_wp2
    go_ret
    exact ⟨ret_bool (by first | rfl | (rw [Bool.eq_iff_iff]; first | done | (simp; done) | (simp; omega))), rfl⟩
set_option maxHeartbeats 400000 in
theorem isDigit_any (c : UInt8) (w : World) :
    Calls Tryz.prog 99 #[.int .u8 (c.toNat : Int)] w fun e w' => e = .returned (.bool (digit c)) ∧ w' = w := by
  unfold digit
  generalize c.toNat = n
  by_cases h : 48 ≤ n
  · have h' : (48 : Int) ≤ (n : Int) := by omega
    go_enter Tryz.func99, Tryz.ntmps99
    go_wp2
    go_ret
    exact ⟨ret_bool (by first | rfl | (rw [Bool.eq_iff_iff]; first | done | (simp; done) | (simp; omega))), rfl⟩
  · have h' : ¬ (48 : Int) ≤ (n : Int) := by omega
    go_enter Tryz.func99, Tryz.ntmps99
    go_wp2
    go_ret
    exact ⟨ret_bool (by first | rfl | (rw [Bool.eq_iff_iff]; first | done | (simp; done) | (simp; omega))), rfl⟩

set_option maxHeartbeats 2000000 in
theorem nameEnd_any (s : ByteArray) (at0 : Nat) (h0 : at0 ≤ s.size) (w : World) (hs : s.size ≤ 140737488351232) :
    Calls Tryz.prog 95 #[.string s, .int .i64 (at0 : Int)] w fun e w' => e = .returned (.int .i64 (upTo nameC s.data.toList at0 : Nat)) ∧ w' = w := by
  go_enter Tryz.func95, Tryz.ntmps95
  go_wp2
  go_loopw [1] (fun t wr => ∃ (i : Nat), i ≤ s.size ∧ t = .int .i64 i ∧ Hid (upTo nameC s.data.toList i = upTo nameC s.data.toList at0) ∧ wr = w) (fun t _ => s.size - (intOf t).toNat)
  case atStart => exact ⟨at0, h0, rfl, rfl, rfl⟩
  case round =>
    obtain ⟨i, hi, rfl, hn, rfl⟩ := hrel
    by_cases c : i < s.size
    · have c' : (i : Int) < (s.size : Int) := by omega
      obtain ⟨ch, hch, hl⟩ := byte_at s c
      have HL : Hid (s.data.toList[i]? = some ch) := hl
      clear hl
      cases q1 : small ch
      · cases q2 : digit ch
        · have E : Hid (upTo nameC s.data.toList i = i) := upTo_stop HL.out (by unfold nameC; rw [q1, q2]; rfl)
          go_wp2_with (first | (go_at_call 94; refine (isLetter_any _ _).mono ?_; rintro e w' ⟨rfl, rfl⟩) | (go_at_call 99; refine (isDigit_any _ _).mono ?_; rintro e w' ⟨rfl, rfl⟩))
          go_ret
          exact ⟨ret_int (by rw [← hn.out, E.out]), rfl⟩
        · go_wp2_with (first | (go_at_call 94; refine (isLetter_any _ _).mono ?_; rintro e w' ⟨rfl, rfl⟩) | (go_at_call 99; refine (isDigit_any _ _).mono ?_; rintro e w' ⟨rfl, rfl⟩))
          go_roundw
          case rel => exact ⟨i + 1, by omega, by go_num, (upTo_step HL.out (by unfold nameC; rw [q1, q2]; rfl)).trans hn.out, by first | rfl | trivial⟩
          case measure => simp [intOf]; omega
      · go_wp2_with (first | (go_at_call 94; refine (isLetter_any _ _).mono ?_; rintro e w' ⟨rfl, rfl⟩) | (go_at_call 99; refine (isDigit_any _ _).mono ?_; rintro e w' ⟨rfl, rfl⟩))
        go_roundw
        case rel => exact ⟨i + 1, by omega, by go_num, (upTo_step HL.out (by unfold nameC; rw [q1]; rfl)).trans hn.out, by first | rfl | trivial⟩
        case measure => simp [intOf]; omega
    · have c' : ¬ (i : Int) < (s.size : Int) := by omega
      have E : Hid (upTo nameC s.data.toList i = i) := upTo_end (by rw [← Lib.size_eq]; omega)
      go_wp2_with fail
      go_ret
      exact ⟨ret_int (by rw [← hn.out, E.out]), rfl⟩

set_option maxHeartbeats 2000000 in
theorem digitsEnd_any (s : ByteArray) (at0 : Nat) (h0 : at0 ≤ s.size) (w : World) (hs : s.size ≤ 140737488351232) :
    Calls Tryz.prog 124 #[.string s, .int .i64 (at0 : Int)] w fun e w' => e = .returned (.int .i64 (upTo digit s.data.toList at0 : Nat)) ∧ w' = w := by
  go_enter Tryz.func124, Tryz.ntmps124
  go_wp2
  go_loopw [1] (fun t wr => ∃ (i : Nat), i ≤ s.size ∧ t = .int .i64 i ∧ Hid (upTo digit s.data.toList i = upTo digit s.data.toList at0) ∧ wr = w) (fun t _ => s.size - (intOf t).toNat)
  case atStart => exact ⟨at0, h0, rfl, rfl, rfl⟩
  case round =>
    obtain ⟨i, hi, rfl, hn, rfl⟩ := hrel
    by_cases c : i < s.size
    · have c' : (i : Int) < (s.size : Int) := by omega
      obtain ⟨ch, hch, hl⟩ := byte_at s c
      have HL : Hid (s.data.toList[i]? = some ch) := hl
      clear hl
      cases q2 : digit ch
      · have E : Hid (upTo digit s.data.toList i = i) := upTo_stop HL.out q2
        go_wp2_with (go_at_call 99; refine (isDigit_any _ _).mono ?_; rintro e w' ⟨rfl, rfl⟩)
        go_ret
        exact ⟨ret_int (by rw [← hn.out, E.out]), rfl⟩
      · go_wp2_with (go_at_call 99; refine (isDigit_any _ _).mono ?_; rintro e w' ⟨rfl, rfl⟩)
        go_roundw
        case rel => exact ⟨i + 1, by omega, by go_num, (upTo_step HL.out q2).trans hn.out, by first | rfl | trivial⟩
        case measure => simp [intOf]; omega
    · have c' : ¬ (i : Int) < (s.size : Int) := by omega
      have E : Hid (upTo digit s.data.toList i = i) := upTo_end (by rw [← Lib.size_eq]; omega)
      go_wp2_with fail
      go_ret
      exact ⟨ret_int (by rw [← hn.out, E.out]), rfl⟩
end Go.Proofs.YtkljakeccfnakaaGreatDoor

namespace Go.Proofs.YtkljakeccfnakaaGreatDoor
open Go.RowKit

set_option maxHeartbeats 4000000 in
theorem isKey_any (s : ByteArray) (w : World) :
    Calls Tryz.prog 96 #[.string s] w fun e w' => e = .returned (.bool (keyB s.data.toList)) ∧ w' = w := by
  go_enter Tryz.func96, Tryz.ntmps96
  go_wp2
  all_goals
    go_ret
    refine ⟨ret_bool ?_, rfl⟩
    rw [← Lib.toList_data]
    first
    | (simp only [keyB, keyL, List.contains_cons, List.contains_nil, *, Bool.false_or, Bool.true_or]; done)
    | (exfalso; simp_all; done)

theorem idx10 (l : List UInt8) : Lib.indexByte l 10 = if (l.takeWhile notNl).length < l.length then ((l.takeWhile notNl).length : Int) else -1 := by
  induction l with
  | nil => rfl
  | cons b l ih =>
    unfold Lib.indexByte
    by_cases hb : b = 10
    · subst hb
      rw [List.takeWhile_cons_of_neg (by decide)]
      simp
    · have h1 : (b == (10 : UInt8)) = false := by simpa using hb
      have h2 : notNl b = true := by
        unfold notNl
        rw [Bool.not_eq_true', decide_eq_false_iff_not]
        intro h; exact hb (UInt8.toNat_inj.1 h)
      rw [h1, ih, List.takeWhile_cons_of_pos h2]
      simp only [List.length_cons, Bool.false_eq_true, if_false]
      have := takeWhile_le notNl l
      by_cases h : (l.takeWhile notNl).length < l.length
      · have h3 : ((((l.takeWhile notNl).length : Int)) == -1) = false := by rw [beq_eq_false_iff_ne]; omega
        rw [if_pos h, if_pos (show (l.takeWhile notNl).length + 1 < l.length + 1 by omega), h3]
        simp
      · rw [if_neg h, if_neg (show ¬ (l.takeWhile notNl).length + 1 < l.length + 1 by omega)]; rfl

theorem call40 (s : ByteArray) (w : World) : (callFunc 161 #[.string s, .int .u8 10]).run Tryz.prog w = .ok (.value (.int .i64 (Lib.indexByte s.data.toList 10))) w := by
  rw [run_callFunc_extern Tryz.func161 (by kernel_rfl) (by kernel_rfl) (by kernel_rfl) (e := Extern.BytealgIndexByte.indexByte) (by kernel_rfl), run_indexByte_string, ← Lib.firstIdx_eq]
  rfl
set_option maxHeartbeats 400000 in
theorem sliteIndexByte_any (s : ByteArray) (w : World) :
    Calls Tryz.prog 141 #[.string s, .int .u8 10] w fun e w' => e = .returned (.int .i64 (Lib.indexByte s.data.toList 10)) ∧ w' = w := by
  have hd := call40 s
  go_enter Tryz.func141, Tryz.ntmps141
  go_wp2
  go_ret
  exact ⟨rfl, rfl⟩
set_option maxHeartbeats 400000 in
theorem indexByte_any (s : ByteArray) (w : World) :
    Calls Tryz.prog 123 #[.string s, .int .u8 10] w fun e w' => e = .returned (.int .i64 (Lib.indexByte s.data.toList 10)) ∧ w' = w := by
  go_enter Tryz.func123, Tryz.ntmps123
  go_wp2_with (go_at_call 141; refine (sliteIndexByte_any _ _).mono ?_; rintro e w' ⟨rfl, rfl⟩)
  go_ret
  exact ⟨rfl, rfl⟩

theorem line_end (s : ByteArray) (at0 : Nat) (h0 : at0 ≤ s.size) :
    (Lib.indexByte (s.extract at0 s.size).data.toList 10 < 0 ∧ s.size = upTo notNl s.data.toList at0) ∨ (0 ≤ Lib.indexByte (s.extract at0 s.size).data.toList 10 ∧ (at0 : Int) + Lib.indexByte (s.extract at0 s.size).data.toList 10 = (upTo notNl s.data.toList at0 : Nat)) := by
  rw [Lib.extract_to_end, idx10]
  have h1 := takeWhile_le notNl (s.data.toList.drop at0)
  have h2 : (s.data.toList.drop at0).length = s.size - at0 := by rw [List.length_drop, ← Lib.size_eq]
  unfold upTo
  by_cases h : ((s.data.toList.drop at0).takeWhile notNl).length < (s.data.toList.drop at0).length
  · rw [if_pos h]; right; omega
  · rw [if_neg h]; left; omega

set_option maxHeartbeats 400000 in
theorem lineEnd_any (s : ByteArray) (at0 : Nat) (h0 : at0 ≤ s.size) (w : World) (hs : s.size ≤ 140737488351232) :
    Calls Tryz.prog 97 #[.string s, .int .i64 (at0 : Int)] w fun e w' => e = .returned (.int .i64 (upTo notNl s.data.toList at0 : Nat)) ∧ w' = w := by
  have hU := upTo_len (p := notNl) (l := s.data.toList) (i := at0) (by rw [← Lib.size_eq]; exact h0)
  rw [← Lib.size_eq] at hU
  have HU : Hid (at0 ≤ upTo notNl s.data.toList at0 ∧ upTo notNl s.data.toList at0 ≤ s.size) := hU
  clear hU
  have h0' : (at0 : Int) ≤ (s.size : Int) := by omega
  rcases line_end s at0 h0 with ⟨hn, he⟩ | ⟨hn, he⟩
  · have HE : Hid (s.size = upTo notNl s.data.toList at0) := he
    clear he
    generalize hq : Lib.indexByte (s.extract at0 s.size).data.toList 10 = q at hn
    have HQ : Hid (Lib.indexByte (s.extract at0 s.size).data.toList 10 = q) := hq
    clear hq
    go_enter Tryz.func97, Tryz.ntmps97
    go_wp2_with (go_at_call 123; refine (indexByte_any _ _).mono ?_; rintro e w' ⟨rfl, rfl⟩; first | rw [HQ.out] | skip)
    go_ret
    exact ⟨ret_int (by rw [← HE.out]), rfl⟩
  · generalize hq : Lib.indexByte (s.extract at0 s.size).data.toList 10 = q at hn he
    have HQ : Hid (Lib.indexByte (s.extract at0 s.size).data.toList 10 = q) := hq
    have HE : Hid ((at0 : Int) + q = (upTo notNl s.data.toList at0 : Nat)) := he
    have hb : (at0 : Int) + q ≤ (s.size : Int) := by have := HU.out.2; omega
    have hn' : ¬ q < 0 := by omega
    clear hq he
    go_enter Tryz.func97, Tryz.ntmps97
    go_wp2_with (go_at_call 123; refine (indexByte_any _ _).mono ?_; rintro e w' ⟨rfl, rfl⟩; first | rw [HQ.out] | skip)
    go_ret
    exact ⟨ret_int (by first | exact HE.out | (rw [wrap64_of_fits]; exact HE.out) | (have := HE.out; go_num)), rfl⟩

/-- How long the longest sign at the front is. -/
def signN (l : List UInt8) : Nat := if [[58, 61], [60, 45], [45, 62], [46, 91]].contains (l.take 2) = true then 2 else if (l[0]?).any single = true then 1 else 0

theorem single_int (c : UInt8) : singleB (c.toNat : Int) = single c := by
  unfold singleB single
  simp only [← cast_eq]; rfl
theorem sign_raw (s : ByteArray) {c : UInt8} (hl : s.data.toList[0]? = some c) :
    signN s.data.toList = if [[58, 61], [60, 45], [45, 62], [46, 91]].contains (s.extract 0 2).toList = true then 2 else if singleB (c.toNat : Int) = true then 1 else 0 := by
  unfold signN
  rw [Lib.extract_toList, hl, single_int]
  rfl
theorem sign_short (s : ByteArray) {c : UInt8} (hl : s.data.toList[0]? = some c) (h1 : ¬ 1 < s.size) : signN s.data.toList = if singleB (c.toNat : Int) = true then 1 else 0 := by
  unfold signN
  rw [hl, single_int]
  have e : s.data.toList = [c] := by
    rw [Lib.size_eq] at h1
    cases h : s.data.toList with
    | nil => rw [h] at hl; simp at hl
    | cons a r =>
      rw [h] at hl h1
      simp only [List.getElem?_cons_zero, Option.some.injEq] at hl
      rw [List.length_cons] at h1
      rw [hl, List.eq_nil_of_length_eq_zero (show r.length = 0 by omega)]
  rw [e, if_neg (by simp)]
  rfl

set_option maxHeartbeats 4000000 in
theorem signLength_any (s : ByteArray) (h0 : 0 < s.size) (w : World) :
    Calls Tryz.prog 126 #[.string s] w fun e w' => e = .returned (.int .i64 (signN s.data.toList : Nat)) ∧ w' = w := by
  obtain ⟨c, hc, hl⟩ := byte_at s h0
  have HL : Hid (s.data.toList[0]? = some c) := hl
  clear hl
  by_cases c1 : 1 < s.size
  · have c1' : (1 : Int) < (s.size : Int) := by omega
    have c2' : (2 : Int) ≤ (s.size : Int) := by omega
    go_enter Tryz.func126, Tryz.ntmps126
    go_wp2
    all_goals
      go_ret
      refine ⟨ret_int ?_, rfl⟩
      rw [sign_raw s HL.out]
      first
      | (simp only [List.contains_cons, List.contains_nil, singleB, *, Bool.or_false, Bool.true_or, Bool.or_true, Bool.false_eq_true, if_true, if_false]; done)
      | (simp only [List.contains_cons, List.contains_nil, singleB, *, Bool.or_false, Bool.true_or, Bool.or_true, Bool.false_eq_true, if_true, if_false]; rfl)
      | (exfalso; simp_all; done)
  · have c1' : ¬ (1 : Int) < (s.size : Int) := by omega
    go_enter Tryz.func126, Tryz.ntmps126
    go_wp2
    all_goals
      go_ret
      refine ⟨ret_int ?_, rfl⟩
      rw [sign_short s HL.out c1]
      first
      | (simp only [singleB, *, Bool.or_false, Bool.true_or, Bool.or_true, Bool.false_eq_true, if_true, if_false]; done)
      | (simp only [singleB, *, Bool.or_false, Bool.true_or, Bool.or_true, Bool.false_eq_true, if_true, if_false]; rfl)
      | (exfalso; simp_all; done)

theorem drop_drop' (l : List UInt8) (i n : Nat) : (l.drop i).drop n = l.drop (i + n) := by rw [List.drop_drop]
/-- From i on, up to j, there are blanks and remarks alone. -/
def Skips (l : List UInt8) (i j : Nat) : Prop := ∀ k, lexA (l.drop i) i k = lexA (l.drop j) j k
theorem Skips.refl (l : List UInt8) (i : Nat) : Skips l i i := fun _ => rfl
theorem Skips.step {l : List UInt8} {i j n : Nat} (h : Skips l i j) (hs : stepL (l.drop j) = .skip n) : Skips l i (j + n) := fun k => by
  rw [h k, lexA_skip hs, drop_drop']
theorem blank_int (c : UInt8) : blank c = (((c.toNat : Int) == 32) || ((c.toNat : Int) == 9) || ((c.toNat : Int) == 10) || ((c.toNat : Int) == 13)) := by
  unfold blank
  simp only [← cast_eq]; rfl
theorem hash_int {c : UInt8} (h : ((c.toNat : Int) == 35) = true) : c.toNat = 35 := by rw [beq_iff_eq] at h; omega
theorem hash_not {c : UInt8} (h : ((c.toNat : Int) == 35) = false) : ¬ c.toNat = 35 := by rw [beq_eq_false_iff_ne] at h; omega
theorem Skips.remark {l : List UInt8} {i j : Nat} {c : UInt8} (h : Skips l i j) (hj : l[j]? = some c) (q : blank c = false) (q1 : c.toNat = 35) : Skips l i (upTo notNl l j) ∧ j < upTo notNl l j ∧ upTo notNl l j ≤ l.length := by
  have hjl : j < l.length := (List.getElem?_eq_some_iff.1 hj).1
  have e1 : upTo notNl l (j + 1) = upTo notNl l j := upTo_step hj (by unfold notNl; rw [q1]; rfl)
  have e2 := upTo_len (p := notNl) (l := l) (i := j + 1) (by omega)
  rw [e1] at e2
  have := h.step (step_remark hj q q1)
  rw [show j + (upTo notNl l j - j) = upTo notNl l j by omega] at this
  exact ⟨this, by omega, e2.2⟩
def bare (c : UInt8) : Bool := !blank c && !decide (c.toNat = 35)
/-- At j no blank stands, and no remark begins. -/
def BareAt (l : List UInt8) (j : Nat) : Prop := ∀ c, l[j]? = some c → bare c = true

set_option maxHeartbeats 4000000 in
theorem blanksEnd_any (s : ByteArray) (at0 : Nat) (h0 : at0 ≤ s.size) (w : World) (hs : s.size ≤ 140737488351232) :
    Calls Tryz.prog 70 #[.string s, .int .i64 (at0 : Int)] w fun e w' => (∃ j : Nat, e = .returned (.int .i64 (j : Int)) ∧ at0 ≤ j ∧ j ≤ s.size ∧ Skips s.data.toList at0 j ∧ BareAt s.data.toList j) ∧ w' = w := by
  go_enter Tryz.func70, Tryz.ntmps70
  go_wp2
  go_loopw [1] (fun t wr => ∃ (i : Nat), at0 ≤ i ∧ i ≤ s.size ∧ t = .int .i64 i ∧ Hid (Skips s.data.toList at0 i) ∧ wr = w) (fun t _ => s.size - (intOf t).toNat)
  case atStart => exact ⟨at0, Nat.le_refl _, h0, rfl, Skips.refl _ _, rfl⟩
  case round =>
    obtain ⟨i, hi0, hi, rfl, hn, rfl⟩ := hrel
    by_cases c : i < s.size
    · have c' : (i : Int) < (s.size : Int) := by omega
      obtain ⟨ch, hch, hl⟩ := byte_at s c
      have HL : Hid (s.data.toList[i]? = some ch) := hl
      clear hl
      go_wp2_with (go_at_call 97; refine (lineEnd_any _ _ (by assumption) _ (by assumption)).mono ?_; rintro e w' ⟨rfl, rfl⟩)
      all_goals first
        | (have hb : blank ch = true := by rw [blank_int]; simp only [*, Bool.or_false, Bool.true_or, Bool.or_true]
           exact ⟨⟨i + 1, by omega, by omega, by go_num, hn.out.step (step_blank HL.out hb), trivial⟩, by simp [intOf]; omega⟩)
        | (have hb : blank ch = false := by rw [blank_int]; simp only [*, Bool.or_false]
           have h35 := hash_int (c := ch) (by assumption)
           have hr := hn.out.remark HL.out hb h35
           rw [← Lib.size_eq] at hr
           exact ⟨⟨_, by omega, hr.2.2, rfl, hr.1, trivial⟩, by simp [intOf]; omega⟩)
        | (have hb : blank ch = false := by rw [blank_int]; simp only [*, Bool.or_false]
           have h35 := hash_not (c := ch) (by assumption)
           go_ret
           exact ⟨⟨i, rfl, hi0, hi, hn.out, fun d hd => by
             rw [HL.out] at hd
             obtain rfl := Option.some.inj hd
             unfold bare; rw [hb]; simp [h35]⟩, rfl⟩)
        | (exfalso; simp_all; done)
    · have c' : ¬ (i : Int) < (s.size : Int) := by omega
      go_wp2_with fail
      go_ret
      exact ⟨⟨i, rfl, hi0, hi, hn.out, fun d hd => by have := (List.getElem?_eq_some_iff.1 hd).1; rw [← Lib.size_eq] at this; omega⟩, rfl⟩
end Go.Proofs.YtkljakeccfnakaaGreatDoor

namespace Go.Proofs.YtkljakeccfnakaaGreatDoor
open Go.RowKit

theorem upTo_all (l : List UInt8) : (upTo nameC l 0 = l.length) ↔ l.all nameC = true := by
  unfold upTo
  rw [List.drop_zero, Nat.zero_add]
  induction l with
  | nil => simp
  | cons c r ih =>
    by_cases h : nameC c = true
    · rw [List.takeWhile_cons_of_pos h, List.length_cons, List.length_cons, List.all_cons, h, Bool.true_and, ← ih]
      omega
    · rw [List.takeWhile_cons_of_neg h, List.all_cons]
      rw [Bool.not_eq_true] at h
      rw [h]; simp

theorem digit_bounds {c : UInt8} (h : digit c = true) : 48 ≤ c.toNat ∧ c.toNat ≤ 57 := by
  unfold digit at h
  simpa [Bool.and_eq_true, decide_eq_true_iff] using h
theorem numV_take {l : List UInt8} {k : Nat} {c : UInt8} (h : l[k]? = some c) : numV (l.take (k + 1)) = 10 * numV (l.take k) + (c.toNat - 48) := by
  rw [← numV_add, List.take_add_one, h]; rfl
theorem numV_take_le {l : List UInt8} {k : Nat} (h : l.length ≤ 9) : numV (l.take k) ≤ 23000000000 := by
  have h1 := numV_le _ (l.take k) rfl
  have h2 : 10 ^ (l.take k).length ≤ 10 ^ 9 := Nat.pow_le_pow_right (by omega) (by rw [List.length_take]; omega)
  have h3 : 10 ^ 9 = 1000000000 := by decide
  omega

set_option maxHeartbeats 4000000 in
theorem innerAtoi_any (s : ByteArray) (w : World) (h1 : 1 ≤ s.size) (h9 : s.size ≤ 9) (hd : ∀ c ∈ s.data.toList, digit c = true) :
    Calls Tryz.prog 142 #[.string s] w fun e w' => e = .returned (.tuple #[.int .i64 (numV s.data.toList : Nat), .nilIface]) ∧ Below w.heap.size w w' := by
  have hp : 0 < s.size := by omega
  obtain ⟨ch, hch, hl⟩ := byte_at s hp
  have hb := digit_bounds (hd ch (List.mem_of_getElem? hl))
  have n1 : ((ch.toNat : Int) == 45) = false := by rw [beq_eq_false_iff_ne]; omega
  have n2 : ((ch.toNat : Int) == 43) = false := by rw [beq_eq_false_iff_ne]; omega
  have HD : Hid (∀ c ∈ s.data.toList, digit c = true) := hd
  clear hl hd hb
  have hcv := Lib.run_convert_string_bytes (P := Tryz.prog) w 9 52 5 s (u := .string) Tryz.underlying9 Tryz.underlying52 Tryz.underlying5
  have hB : ∀ j, j < s.size → (Lib.bytesWorld w 5 s).cell? ⟨w.heap.size, j, none⟩ = some (.int .u8 (s.data.toList.getD j 0).toNat) := fun j hj => Lib.bytesWorld_cell w 5 s j hj
  have hbel : Below w.heap.size w (Lib.bytesWorld w 5 s) := Joins.below_bytesWorld _ w 5 s (Nat.le_refl _)
  obtain ⟨W1, hW1⟩ : ∃ W1, W1 = Lib.bytesWorld w 5 s := ⟨_, rfl⟩
  rw [← hW1] at hcv hB hbel
  have HB : Hid (∀ j, j < s.size → W1.cell? ⟨w.heap.size, j, none⟩ = some (.int .u8 (s.data.toList.getD j 0).toNat)) := hB
  have BEL : Hid (Below w.heap.size w W1) := hbel
  clear hW1 hB hbel
  have L1 : (1 : Int) ≤ (s.size : Int) := by omega
  have L9 : (s.size : Int) < 19 := by omega
  have L0 : (0 : Int) < (s.size : Int) := by omega
  go_enter Tryz.func142, Tryz.ntmps142
  go_wp2
  go_loop [49, 6] (fun vi vn => ∃ (k : Nat), k ≤ s.size ∧ vi = .int .i64 k ∧ ∃ a : Nat, vn = .int .i64 a ∧ Hid (a = numV (s.data.toList.take k))) (fun vi _ => s.size - (RowKit.intOf vi).toNat)
  case atStart => exact ⟨0, Nat.zero_le _, rfl, 0, rfl, rfl⟩
  case round =>
    obtain ⟨k, hk, rfl, a, rfl, ha⟩ := hrel
    have hab : a ≤ 23000000000 := by rw [ha.out]; exact numV_take_le (by rw [← Lib.size_eq]; exact h9)
    by_cases hkn : k < s.size
    · obtain ⟨x, hx⟩ : ∃ x, x = s.data.toList.getD k 0 := ⟨_, rfl⟩
      have hxk : s.data.toList[k]? = some x := by
        rw [hx, List.getD, List.getElem?_eq_getElem (by rw [← Lib.size_eq]; exact hkn)]
        rfl
      have hc1 : W1.cell? ⟨w.heap.size, k, none⟩ = some (.int .u8 x.toNat) := by rw [hx]; exact HB.out k hkn
      have hdx := digit_bounds (HD.out x (List.mem_of_getElem? hxk))
      have Hxk : Hid (s.data.toList[k]? = some x) := hxk
      obtain ⟨b0, b1⟩ := hdx
      have b9 : ¬ (9 : Int) < (x.toNat : Int) - 48 := by omega
      clear hx hxk
      go_wp2
      go_round
      case rel => exact ⟨k + 1, by omega, by go_num, 10 * a + (x.toNat - 48), by first | go_num | (congr 1; omega), by
        show 10 * a + (x.toNat - 48) = numV (s.data.toList.take (k + 1))
        rw [numV_take Hxk.out, ← ha.out]⟩
      case measure => simp [RowKit.intOf]; omega
    · have hke : k = s.size := by omega
      subst hke
      have HA : Hid (a = numV s.data.toList) := by
        have := ha.out
        rwa [List.take_of_length_le (by rw [← Lib.size_eq]; exact Nat.le_refl _)] at this
      go_wp2
      go_ret2
      exact ⟨by rw [← HA.out]; rfl, BEL.out⟩

set_option maxHeartbeats 1000000 in
theorem atoi_any (s : ByteArray) (w : World) (h1 : 1 ≤ s.size) (h9 : s.size ≤ 9) (hd : ∀ c ∈ s.data.toList, digit c = true) :
    Calls Tryz.prog 125 #[.string s] w fun e w' => e = .returned (.tuple #[.int .i64 (numV s.data.toList : Nat), .nilIface]) ∧ Below w.heap.size w w' := by
  have HD : Hid (∀ c ∈ s.data.toList, digit c = true) := hd
  clear hd
  go_enter Tryz.func125, Tryz.ntmps125
  go_wp2_with (go_at_call 142; refine (innerAtoi_any _ _ h1 h9 HD.out).mono ?_; rintro e w' ⟨rfl, hb⟩)
  go_ret2
  exact ⟨rfl, hb⟩
end Go.Proofs.YtkljakeccfnakaaGreatDoor

namespace Go.Proofs.YtkljakeccfnakaaGreatDoor
open Go.RowKit

/-- A word as a value. -/
def tokV (t : Tok) : Value := .agg #[.int .i64 t.kind, .string ⟨t.text.toArray⟩, .int .i64 t.val, .int .i64 t.pos]
/-- What a reader gives up with. -/
def faultV (c p : Nat) : Value := .iface 69 (.agg #[.int .i64 c, .int .i64 p])
def gaveUp (c p : Nat) : Ending := .panicked [{ v := faultV c p, recovered := false }]

/-- A piece of a text. -/
theorem piece (s : ByteArray) {i j : Nat} (h1 : i ≤ j) (h2 : j ≤ s.size) : ∃ x : ByteArray, x.size = j - i ∧ x.data.toList = (s.data.toList.drop i).take (j - i) ∧ x = ⟨((s.data.toList.drop i).take (j - i)).toArray⟩ ∧
    ∀ W, (Instr.slice 9 (.string s) (some (.int .i64 (i : Int))) (some (.int .i64 (j : Int))) none).run Tryz.prog W = .ok (.string x) W := by
  refine ⟨s.extract i j, ?_, Lib.extract_data .., ?_, fun W => ?_⟩
  · rw [Lib.size_eq, Lib.extract_data, List.length_take, List.length_drop, ← Lib.size_eq]; omega
  · apply ByteArray.ext
    show _ = ((s.data.toList.drop i).take (j - i)).toArray
    rw [← Lib.extract_data]
  · rw [run_slice_string_if W 9 s .i64 .i64 _ _ Tryz.underlying9, if_pos ⟨by omega, by omega⟩, if_pos ⟨by omega, by omega⟩]
    simp

set_option maxHeartbeats 4000000 in
theorem name_bad (s : ByteArray) (i : Nat) (hi : i < s.size) (w : World) (hs : s.size ≤ 140737488351232) (hc : 16 < upTo nameC s.data.toList i - i) :
    Calls Tryz.prog 98 #[.string s, .int .i64 (i : Int)] w fun e w' => e = gaveUp 10 i ∧ Below w.heap.size w w' := by
  have hU := upTo_len (p := nameC) (l := s.data.toList) (i := i) (by rw [← Lib.size_eq]; omega)
  rw [← Lib.size_eq] at hU
  obtain ⟨j, hj⟩ : ∃ j, upTo nameC s.data.toList i = j := ⟨_, rfl⟩
  rw [hj] at hU hc
  have HJ : Hid (upTo nameC s.data.toList i = j) := hj
  clear hj
  obtain ⟨x, hz, hx, hx2, hsl⟩ := piece s hU.1 hU.2
  have c' : (16 : Int) < (x.size : Int) := by omega
  clear hx hx2 hz hc hU
  go_enter Tryz.func98, Tryz.ntmps98
  go_wp2_with (first | (go_at_call 95; refine (nameEnd_any _ _ (by omega) _ hs).mono ?_; rintro e w' ⟨rfl, rfl⟩; rw [HJ.out]) | (go_at_call 96; refine (isKey_any _ _).mono ?_; rintro e w' ⟨rfl, rfl⟩))
  exact ⟨rfl, rfl, (Below.refl _ _).alloc (Nat.le_refl _) _⟩

set_option maxHeartbeats 4000000 in
theorem name_ok (s : ByteArray) (i : Nat) (hi : i < s.size) (w : World) (hs : s.size ≤ 140737488351232) (hc : ¬ 16 < upTo nameC s.data.toList i - i) :
    Calls Tryz.prog 98 #[.string s, .int .i64 (i : Int)] w fun e w' => e = .returned (tokV ⟨if keyB ((s.data.toList.drop i).take (upTo nameC s.data.toList i - i)) = true then 2 else 1, (s.data.toList.drop i).take (upTo nameC s.data.toList i - i), 0, i⟩) ∧ Below w.heap.size w w' := by
  have hU := upTo_len (p := nameC) (l := s.data.toList) (i := i) (by rw [← Lib.size_eq]; omega)
  rw [← Lib.size_eq] at hU
  obtain ⟨j, hj⟩ : ∃ j, upTo nameC s.data.toList i = j := ⟨_, rfl⟩
  rw [hj] at hU hc ⊢
  have HJ : Hid (upTo nameC s.data.toList i = j) := hj
  clear hj
  obtain ⟨x, hz, hx, hx2, hsl⟩ := piece s hU.1 hU.2
  have c' : ¬ (16 : Int) < (x.size : Int) := by omega
  rw [← hx]
  have HX2 : Hid ((⟨x.data.toList.toArray⟩ : ByteArray) = x) := rfl
  clear hx hx2 hz hc hU
  cases hk : keyB x.data.toList
  · have HK : Hid (keyB x.data.toList = false) := hk
    clear hk
    simp only [Bool.false_eq_true, if_false]
    go_enter Tryz.func98, Tryz.ntmps98
    go_wp2_with (first | (go_at_call 95; refine (nameEnd_any _ _ (by omega) _ hs).mono ?_; rintro e w' ⟨rfl, rfl⟩; rw [HJ.out]) | (go_at_call 96; refine (isKey_any _ _).mono ?_; rintro e w' ⟨rfl, rfl⟩; rw [HK.out]))
    refine bodyPost_ret (v := .agg #[.int .i64 1, .string x, .int .i64 0, .int .i64 i]) (by simp [results, Tryz.results98, go_sem]) rfl ⟨rfl, ?_⟩
    exact (Below.refl _ _).alloc (Nat.le_refl _) _
  · have HK : Hid (keyB x.data.toList = true) := hk
    clear hk
    simp only [if_true]
    go_enter Tryz.func98, Tryz.ntmps98
    go_wp2_with (first | (go_at_call 95; refine (nameEnd_any _ _ (by omega) _ hs).mono ?_; rintro e w' ⟨rfl, rfl⟩; rw [HJ.out]) | (go_at_call 96; refine (isKey_any _ _).mono ?_; rintro e w' ⟨rfl, rfl⟩; rw [HK.out]))
    refine bodyPost_ret (v := .agg #[.int .i64 2, .string x, .int .i64 0, .int .i64 i]) (by simp [results, Tryz.results98, go_sem]) rfl ⟨rfl, ?_⟩
    exact (Below.refl _ _).alloc (Nat.le_refl _) _

theorem drop_sign (s : ByteArray) {i : Nat} (h1 : i ≤ s.size) : ∃ x : ByteArray, x.size = s.size - i ∧ x.data.toList = s.data.toList.drop i ∧
    ∀ W, (Instr.slice 9 (.string s) (some (.int .i64 (i : Int))) none none).run Tryz.prog W = .ok (.string x) W := by
  refine ⟨s.extract i s.size, ?_, Lib.extract_to_end .., fun W => ?_⟩
  · rw [Lib.size_eq, Lib.extract_to_end, List.length_drop, ← Lib.size_eq]
  · rw [run_slice_string_from_if W 9 s .i64 _ Tryz.underlying9, if_pos ⟨by omega, by omega⟩]
    simp
theorem signN_le (l : List UInt8) : signN l ≤ l.length := by
  unfold signN
  split
  · rename_i h
    rw [List.contains_iff_mem] at h
    have : (l.take 2).length = 2 := by
      simp only [List.mem_cons, List.not_mem_nil, or_false] at h
      rcases h with h | h | h | h <;> rw [h] <;> rfl
    rw [List.length_take] at this; omega
  · split
    · rename_i h
      cases l with
      | nil => simp at h
      | cons a r => simp
    · exact Nat.zero_le _

set_option maxHeartbeats 4000000 in
theorem sign_bad (s : ByteArray) (i : Nat) (hi : i < s.size) (w : World) (hc : signN (s.data.toList.drop i) = 0) :
    Calls Tryz.prog 101 #[.string s, .int .i64 (i : Int)] w fun e w' => e = gaveUp 10 i ∧ Below w.heap.size w w' := by
  obtain ⟨x, hz, hx, hsl⟩ := drop_sign s (Nat.le_of_lt hi)
  have HC : Hid (signN x.data.toList = 0) := by show signN x.data.toList = 0; rw [hx]; exact hc
  have hp : 0 < x.size := by omega
  clear hx hc hz
  go_enter Tryz.func101, Tryz.ntmps101
  go_wp2_with (go_at_call 126; refine (signLength_any _ hp _).mono ?_; rintro e w' ⟨rfl, rfl⟩; rw [HC.out])
  exact ⟨rfl, rfl, (Below.refl _ _).alloc (Nat.le_refl _) _⟩

set_option maxHeartbeats 4000000 in
theorem sign_ok (s : ByteArray) (i n : Nat) (hi : i < s.size) (w : World) (hs : s.size ≤ 140737488351232) (hc : signN (s.data.toList.drop i) = n) (h0 : 0 < n) :
    Calls Tryz.prog 101 #[.string s, .int .i64 (i : Int)] w fun e w' => e = .returned (tokV ⟨4, (s.data.toList.drop i).take n, 0, i⟩) ∧ Below w.heap.size w w' := by
  obtain ⟨x, hz, hx, hsl⟩ := drop_sign s (Nat.le_of_lt hi)
  have hle := signN_le (s.data.toList.drop i)
  rw [hc, ← hx, ← Lib.size_eq] at hle
  have HC : Hid (signN x.data.toList = n) := by show signN x.data.toList = n; rw [hx]; exact hc
  have hp : 0 < x.size := by omega
  obtain ⟨y, hyz, hy, hy2, hsy⟩ := piece s (i := i) (j := i + n) (by omega) (by omega)
  rw [show i + n - i = n by omega] at hy
  rw [← hy]
  have hne : ((n : Int) == 0) = false := by rw [beq_eq_false_iff_ne]; omega
  have hle2 : i + n ≤ s.size := by omega
  rw [Int.natCast_add] at hsy
  clear hx hc hz hyz hy hy2
  go_enter Tryz.func101, Tryz.ntmps101
  go_wp2_with (go_at_call 126; refine (signLength_any _ hp _).mono ?_; rintro e w' ⟨rfl, rfl⟩; rw [HC.out])
  refine bodyPost_ret (v := .agg #[.int .i64 4, .string y, .int .i64 0, .int .i64 i]) (by simp [results, Tryz.results101, go_sem]) rfl ⟨rfl, ?_⟩
  exact (Below.refl _ _).alloc (Nat.le_refl _) _

/-- How digits end: what the reader of a number tests. -/
theorem number_parts (s : ByteArray) {i : Nat} {c : UInt8} (hc : s.data.toList[i]? = some c) (hd : digit c = true) :
    i < upTo digit s.data.toList i ∧ upTo digit s.data.toList i ≤ s.size ∧ ∀ x ∈ (s.data.toList.drop i).take (upTo digit s.data.toList i - i), digit x = true := by
  have hi : i < s.data.toList.length := (List.getElem?_eq_some_iff.1 hc).1
  have e1 := upTo_step hc hd
  have e2 := upTo_len (p := digit) (l := s.data.toList) (i := i + 1) (by omega)
  rw [e1, ← Lib.size_eq] at e2
  refine ⟨by omega, e2.2, fun x hx => ?_⟩
  rw [upTo_sub, ← takeWhile_take] at hx
  exact List.all_eq_true.1 (List.all_takeWhile ..) x hx

set_option maxHeartbeats 4000000 in
theorem number_long (s : ByteArray) (i : Nat) (c : UInt8) (hc : s.data.toList[i]? = some c) (hd : digit c = true) (w : World) (hs : s.size ≤ 140737488351232) (h9 : 9 < upTo digit s.data.toList i - i) :
    Calls Tryz.prog 100 #[.string s, .int .i64 (i : Int)] w fun e w' => e = gaveUp 10 i ∧ Below w.heap.size w w' := by
  have hU := number_parts s hc hd
  obtain ⟨j, hj⟩ : ∃ j, upTo digit s.data.toList i = j := ⟨_, rfl⟩
  rw [hj] at hU h9
  have HJ : Hid (upTo digit s.data.toList i = j) := hj
  clear hj
  obtain ⟨x, hz, hx, hx2, hsl⟩ := piece s (Nat.le_of_lt hU.1) hU.2.1
  have c' : (9 : Int) < (x.size : Int) := by omega
  have hi : i ≤ s.size := by omega
  clear hx hx2 hz h9 hU hc hd
  go_enter Tryz.func100, Tryz.ntmps100
  go_wp2_with (first | (go_at_call 124; refine (digitsEnd_any _ _ hi _ hs).mono ?_; rintro e w' ⟨rfl, rfl⟩; rw [HJ.out]) | (go_at_call 94; refine (isLetter_any _ _).mono ?_; rintro e w' ⟨rfl, rfl⟩))
  exact ⟨rfl, rfl, (Below.refl _ _).alloc (Nat.le_refl _) _⟩

set_option maxHeartbeats 4000000 in
theorem number_zero (s : ByteArray) (i : Nat) (c : UInt8) (hc : s.data.toList[i]? = some c) (hd : digit c = true) (w : World) (hs : s.size ≤ 140737488351232) (h9 : ¬ 9 < upTo digit s.data.toList i - i) (h48 : c.toNat = 48) (h1 : 1 < upTo digit s.data.toList i - i) :
    Calls Tryz.prog 100 #[.string s, .int .i64 (i : Int)] w fun e w' => e = gaveUp 10 i ∧ Below w.heap.size w w' := by
  have hU := number_parts s hc hd
  obtain ⟨j, hj⟩ : ∃ j, upTo digit s.data.toList i = j := ⟨_, rfl⟩
  rw [hj] at hU h9 h1
  have HJ : Hid (upTo digit s.data.toList i = j) := hj
  clear hj
  obtain ⟨x, hz, hx, hx2, hsl⟩ := piece s (Nat.le_of_lt hU.1) hU.2.1
  have c9 : ¬ (9 : Int) < (x.size : Int) := by omega
  have c1 : (1 : Int) < (x.size : Int) := by omega
  have hp : 0 < x.size := by omega
  obtain ⟨d, hdx, hdl⟩ := byte_at x hp
  have hdc : d = c := by
    rw [hx, List.getElem?_take_of_lt (by omega), List.getElem?_drop, Nat.add_zero, hc] at hdl
    exact (Option.some.inj hdl).symm
  have hdv : ((d.toNat : Int) == 48) = true := by rw [hdc, h48]; rfl
  have hi : i ≤ s.size := by omega
  clear hx hx2 hz h9 hU hc hd h1 hdl hdc
  go_enter Tryz.func100, Tryz.ntmps100
  go_wp2_with (first | (go_at_call 124; refine (digitsEnd_any _ _ hi _ hs).mono ?_; rintro e w' ⟨rfl, rfl⟩; rw [HJ.out]) | (go_at_call 94; refine (isLetter_any _ _).mono ?_; rintro e w' ⟨rfl, rfl⟩))
  exact ⟨rfl, rfl, (Below.refl _ _).alloc (Nat.le_refl _) _⟩
end Go.Proofs.YtkljakeccfnakaaGreatDoor

namespace Go.Proofs.YtkljakeccfnakaaGreatDoor
open Go.RowKit

theorem bcell {W w1 : World} (hb : Below W.heap.size W w1) : (∀ b o, b < W.heap.size → w1.cell? ⟨b, o, none⟩ = W.cell? ⟨b, o, none⟩) ∧ (∀ b o, b < W.heap.size → w1.frozen? ⟨b, o, none⟩ = W.frozen? ⟨b, o, none⟩) :=
  ⟨fun b o h => hb.cell (p := ⟨b, o, none⟩) h, fun b o h => hb.frozen (p := ⟨b, o, none⟩) h⟩
theorem bl2 {w w1 w2 : World} (h1 : Below w.heap.size w w1) (h2 : Below w1.heap.size w1 w2) : Below w.heap.size w w2 := h1.trans (h2.mono h1.size)
theorem bs {w w1 : World} {p : Addr} {u : Value} (h : Below w.heap.size w w1) (hp : w.heap.size ≤ p.block) : Below w.heap.size w (w1.setCell p u) := h.setCell hp u
theorem ba {w w1 : World} {o : Obj} (h : Below w.heap.size w w1) : Below w.heap.size w (w1.alloc o) := h.alloc h.size o

set_option maxHeartbeats 4000000 in
theorem number_letter (s : ByteArray) (i : Nat) (c : UInt8) (hc : s.data.toList[i]? = some c) (hd : digit c = true) (w : World) (hs : s.size ≤ 140737488351232) (h9 : ¬ 9 < upTo digit s.data.toList i - i) (h48 : ¬ (c.toNat = 48 ∧ 1 < upTo digit s.data.toList i - i)) (hb : (s.data.toList[upTo digit s.data.toList i]?).any small = true) :
    Calls Tryz.prog 100 #[.string s, .int .i64 (i : Int)] w fun e w' => e = gaveUp 10 i ∧ Below w.heap.size w w' := by
  have hU := number_parts s hc hd
  obtain ⟨j, hj⟩ : ∃ j, upTo digit s.data.toList i = j := ⟨_, rfl⟩
  rw [hj] at hU h9 h48 hb
  have HJ : Hid (upTo digit s.data.toList i = j) := hj
  clear hj
  obtain ⟨x, hz, hx, hx2, hsl⟩ := piece s (Nat.le_of_lt hU.1) hU.2.1
  have c9 : ¬ (9 : Int) < (x.size : Int) := by omega
  have hp : 0 < x.size := by omega
  obtain ⟨d, hdx, hdl⟩ := byte_at x hp
  have hdc : d = c := by
    rw [hx, List.getElem?_take_of_lt (by omega), List.getElem?_drop, Nat.add_zero, hc] at hdl
    exact (Option.some.inj hdl).symm
  have hi : i ≤ s.size := by omega
  have hjs : j ≤ s.size := hU.2.1
  have hjlt : j < s.size := by
    cases h : s.data.toList[j]? with
    | none => rw [h] at hb; simp at hb
    | some b => have := (List.getElem?_eq_some_iff.1 h).1; rw [← Lib.size_eq] at this; exact this
  have hjlt' : (j : Int) < (s.size : Int) := by omega
  obtain ⟨b, hbx, hbl⟩ := byte_at s hjlt
  have hsm : small b = true := by rw [hbl] at hb; exact hb
  clear hb hbl
  clear hx2 h9 hU hc hd hdl
  by_cases q1 : 1 < x.size
  · have c1 : (1 : Int) < (x.size : Int) := by omega
    have hdv : ((d.toNat : Int) == 48) = false := by
      rw [beq_eq_false_iff_ne, hdc]
      intro e; exact h48 ⟨by omega, by omega⟩
    clear hz h48 hdc
    clear hx
    go_enter Tryz.func100, Tryz.ntmps100
    go_wp2_with (first | (go_at_call 124; refine (digitsEnd_any _ _ hi _ hs).mono ?_; rintro e w' ⟨rfl, rfl⟩; rw [HJ.out]) | (go_at_call 94; refine (isLetter_any _ _).mono ?_; rintro e w' ⟨rfl, rfl⟩))
    exact ⟨rfl, rfl, (Below.refl _ _).alloc (Nat.le_refl _) _⟩
  · have c1 : ¬ (1 : Int) < (x.size : Int) := by omega
    clear hz h48 hdc
    clear hx
    go_enter Tryz.func100, Tryz.ntmps100
    go_wp2_with (first | (go_at_call 124; refine (digitsEnd_any _ _ hi _ hs).mono ?_; rintro e w' ⟨rfl, rfl⟩; rw [HJ.out]) | (go_at_call 94; refine (isLetter_any _ _).mono ?_; rintro e w' ⟨rfl, rfl⟩))
    exact ⟨rfl, rfl, (Below.refl _ _).alloc (Nat.le_refl _) _⟩

set_option maxHeartbeats 4000000 in
theorem number_end (s : ByteArray) (i : Nat) (c : UInt8) (hc : s.data.toList[i]? = some c) (hd : digit c = true) (w : World) (hs : s.size ≤ 140737488351232) (h9 : ¬ 9 < upTo digit s.data.toList i - i) (h48 : ¬ (c.toNat = 48 ∧ 1 < upTo digit s.data.toList i - i)) (hb : s.size ≤ upTo digit s.data.toList i) :
    Calls Tryz.prog 100 #[.string s, .int .i64 (i : Int)] w fun e w' => e = .returned (tokV ⟨3, (s.data.toList.drop i).take (upTo digit s.data.toList i - i), numV ((s.data.toList.drop i).take (upTo digit s.data.toList i - i)), i⟩) ∧ Below w.heap.size w w' := by
  have hU := number_parts s hc hd
  obtain ⟨j, hj⟩ : ∃ j, upTo digit s.data.toList i = j := ⟨_, rfl⟩
  rw [hj] at hU h9 h48 hb ⊢
  have HJ : Hid (upTo digit s.data.toList i = j) := hj
  clear hj
  obtain ⟨x, hz, hx, hx2, hsl⟩ := piece s (Nat.le_of_lt hU.1) hU.2.1
  have c9 : ¬ (9 : Int) < (x.size : Int) := by omega
  have hp : 0 < x.size := by omega
  obtain ⟨d, hdx, hdl⟩ := byte_at x hp
  have hdc : d = c := by
    rw [hx, List.getElem?_take_of_lt (by omega), List.getElem?_drop, Nat.add_zero, hc] at hdl
    exact (Option.some.inj hdl).symm
  have hi : i ≤ s.size := by omega
  have hjs : j ≤ s.size := hU.2.1
  have HD : Hid (∀ y ∈ x.data.toList, digit y = true) := by rw [hx]; exact hU.2.2
  have h9' : x.size ≤ 9 := by omega
  rw [← hx]
  have hjlt : ¬ (j : Int) < (s.size : Int) := by omega
  clear hb
  clear hx2 h9 hU hc hd hdl
  by_cases q1 : 1 < x.size
  · have c1 : (1 : Int) < (x.size : Int) := by omega
    have hdv : ((d.toNat : Int) == 48) = false := by
      rw [beq_eq_false_iff_ne, hdc]
      intro e; exact h48 ⟨by omega, by omega⟩
    clear hz h48 hdc
    clear hx
    go_enter Tryz.func100, Tryz.ntmps100
    go_wp2_with (first | (go_at_call 124; refine (digitsEnd_any _ _ hi _ hs).mono ?_; rintro e w' ⟨rfl, rfl⟩; rw [HJ.out]) | (go_at_call 94; refine (isLetter_any _ _).mono ?_; rintro e w' ⟨rfl, rfl⟩) | (go_at_call 125; refine (atoi_any _ _ hp h9' HD.out).mono ?_; rintro e w' ⟨rfl, hb⟩; obtain ⟨hc, hf⟩ := bcell hb; have hzz := hb.size; try simp at hzz; have hz0 : w.heap.size < w'.heap.size := (by omega)))
    refine bodyPost_ret (v := .agg #[.int .i64 3, .string x, .int .i64 (numV x.data.toList : Nat), .int .i64 i]) (by simp [results, Tryz.results100, go_sem, hc]) rfl ⟨rfl, ?_⟩
    exact bs (bs (bs (bs (bl2 (ba (Below.refl _ _)) hb) (by simp)) (by simp)) (by simp)) (by simp)
  · have c1 : ¬ (1 : Int) < (x.size : Int) := by omega
    clear hz h48 hdc
    clear hx
    go_enter Tryz.func100, Tryz.ntmps100
    go_wp2_with (first | (go_at_call 124; refine (digitsEnd_any _ _ hi _ hs).mono ?_; rintro e w' ⟨rfl, rfl⟩; rw [HJ.out]) | (go_at_call 94; refine (isLetter_any _ _).mono ?_; rintro e w' ⟨rfl, rfl⟩) | (go_at_call 125; refine (atoi_any _ _ hp h9' HD.out).mono ?_; rintro e w' ⟨rfl, hb⟩; obtain ⟨hc, hf⟩ := bcell hb; have hzz := hb.size; try simp at hzz; have hz0 : w.heap.size < w'.heap.size := (by omega)))
    refine bodyPost_ret (v := .agg #[.int .i64 3, .string x, .int .i64 (numV x.data.toList : Nat), .int .i64 i]) (by simp [results, Tryz.results100, go_sem, hc]) rfl ⟨rfl, ?_⟩
    exact bs (bs (bs (bs (bl2 (ba (Below.refl _ _)) hb) (by simp)) (by simp)) (by simp)) (by simp)

set_option maxHeartbeats 4000000 in
theorem number_other (s : ByteArray) (i : Nat) (c : UInt8) (hc : s.data.toList[i]? = some c) (hd : digit c = true) (w : World) (hs : s.size ≤ 140737488351232) (h9 : ¬ 9 < upTo digit s.data.toList i - i) (h48 : ¬ (c.toNat = 48 ∧ 1 < upTo digit s.data.toList i - i)) (b : UInt8) (hbl : s.data.toList[upTo digit s.data.toList i]? = some b) (hsm : small b = false) :
    Calls Tryz.prog 100 #[.string s, .int .i64 (i : Int)] w fun e w' => e = .returned (tokV ⟨3, (s.data.toList.drop i).take (upTo digit s.data.toList i - i), numV ((s.data.toList.drop i).take (upTo digit s.data.toList i - i)), i⟩) ∧ Below w.heap.size w w' := by
  have hU := number_parts s hc hd
  obtain ⟨j, hj⟩ : ∃ j, upTo digit s.data.toList i = j := ⟨_, rfl⟩
  rw [hj] at hU h9 h48 hbl ⊢
  have HJ : Hid (upTo digit s.data.toList i = j) := hj
  clear hj
  obtain ⟨x, hz, hx, hx2, hsl⟩ := piece s (Nat.le_of_lt hU.1) hU.2.1
  have c9 : ¬ (9 : Int) < (x.size : Int) := by omega
  have hp : 0 < x.size := by omega
  obtain ⟨d, hdx, hdl⟩ := byte_at x hp
  have hdc : d = c := by
    rw [hx, List.getElem?_take_of_lt (by omega), List.getElem?_drop, Nat.add_zero, hc] at hdl
    exact (Option.some.inj hdl).symm
  have hi : i ≤ s.size := by omega
  have hjs : j ≤ s.size := hU.2.1
  have HD : Hid (∀ y ∈ x.data.toList, digit y = true) := by rw [hx]; exact hU.2.2
  have h9' : x.size ≤ 9 := by omega
  rw [← hx]
  have hjlt : j < s.size := by
    have := (List.getElem?_eq_some_iff.1 hbl).1; rw [← Lib.size_eq] at this; exact this
  have hjlt' : (j : Int) < (s.size : Int) := by omega
  have hbx : s[j] = b := by
    obtain ⟨b', h1, h2⟩ := byte_at s hjlt
    rw [h1]; rw [hbl] at h2; exact (Option.some.inj h2).symm
  clear hbl
  clear hx2 h9 hU hc hd hdl
  by_cases q1 : 1 < x.size
  · have c1 : (1 : Int) < (x.size : Int) := by omega
    have hdv : ((d.toNat : Int) == 48) = false := by
      rw [beq_eq_false_iff_ne, hdc]
      intro e; exact h48 ⟨by omega, by omega⟩
    clear hz h48 hdc
    clear hx
    go_enter Tryz.func100, Tryz.ntmps100
    go_wp2_with (first | (go_at_call 124; refine (digitsEnd_any _ _ hi _ hs).mono ?_; rintro e w' ⟨rfl, rfl⟩; rw [HJ.out]) | (go_at_call 94; refine (isLetter_any _ _).mono ?_; rintro e w' ⟨rfl, rfl⟩) | (go_at_call 125; refine (atoi_any _ _ hp h9' HD.out).mono ?_; rintro e w' ⟨rfl, hb⟩; obtain ⟨hc, hf⟩ := bcell hb; have hzz := hb.size; try simp at hzz; have hz0 : w.heap.size < w'.heap.size := (by omega)))
    refine bodyPost_ret (v := .agg #[.int .i64 3, .string x, .int .i64 (numV x.data.toList : Nat), .int .i64 i]) (by simp [results, Tryz.results100, go_sem, hc]) rfl ⟨rfl, ?_⟩
    exact bs (bs (bs (bs (bl2 (ba (Below.refl _ _)) hb) (by simp)) (by simp)) (by simp)) (by simp)
  · have c1 : ¬ (1 : Int) < (x.size : Int) := by omega
    clear hz h48 hdc
    clear hx
    go_enter Tryz.func100, Tryz.ntmps100
    go_wp2_with (first | (go_at_call 124; refine (digitsEnd_any _ _ hi _ hs).mono ?_; rintro e w' ⟨rfl, rfl⟩; rw [HJ.out]) | (go_at_call 94; refine (isLetter_any _ _).mono ?_; rintro e w' ⟨rfl, rfl⟩) | (go_at_call 125; refine (atoi_any _ _ hp h9' HD.out).mono ?_; rintro e w' ⟨rfl, hb⟩; obtain ⟨hc, hf⟩ := bcell hb; have hzz := hb.size; try simp at hzz; have hz0 : w.heap.size < w'.heap.size := (by omega)))
    refine bodyPost_ret (v := .agg #[.int .i64 3, .string x, .int .i64 (numV x.data.toList : Nat), .int .i64 i]) (by simp [results, Tryz.results100, go_sem, hc]) rfl ⟨rfl, ?_⟩
    exact bs (bs (bs (bs (bl2 (ba (Below.refl _ _)) hb) (by simp)) (by simp)) (by simp)) (by simp)

end Go.Proofs.YtkljakeccfnakaaGreatDoor

namespace Go.Proofs.YtkljakeccfnakaaGreatDoor
open Go.RowKit

/-- What a reader of one word answers at i, by the step there. -/
def WordEnd (l : List UInt8) (i : Nat) (e : Ending) : Step → Prop
  | .tok k v n => e = .returned (tokV ⟨k, (l.drop i).take n, v, i⟩)
  | .bad => e = gaveUp 10 i
  | .skip _ => False

theorem beq_byte (a : UInt8) (n : Nat) (h : n < 256) : (a == (UInt8.ofNat n)) = decide (a.toNat = n) := by
  rw [Bool.eq_iff_iff, beq_iff_eq, decide_eq_true_iff, ← UInt8.toNat_inj, UInt8.toNat_ofNat', Nat.mod_eq_of_lt h]
theorem double_list (c d : UInt8) : [[58, 61], [60, 45], [45, 62], [46, 91]].contains [c, d] = double c d := by
  have e := fun a n (h : n < 256) => beq_byte a n h
  have e1 : ∀ a : UInt8, (a == 58) = decide (a.toNat = 58) := fun a => e a 58 (by decide)
  have e2 : ∀ a : UInt8, (a == 61) = decide (a.toNat = 61) := fun a => e a 61 (by decide)
  have e3 : ∀ a : UInt8, (a == 60) = decide (a.toNat = 60) := fun a => e a 60 (by decide)
  have e4 : ∀ a : UInt8, (a == 45) = decide (a.toNat = 45) := fun a => e a 45 (by decide)
  have e5 : ∀ a : UInt8, (a == 62) = decide (a.toNat = 62) := fun a => e a 62 (by decide)
  have e6 : ∀ a : UInt8, (a == 46) = decide (a.toNat = 46) := fun a => e a 46 (by decide)
  have e7 : ∀ a : UInt8, (a == 91) = decide (a.toNat = 91) := fun a => e a 91 (by decide)
  have nn : (([] : List UInt8) == []) = true := rfl
  simp only [List.contains_cons, List.contains_nil, List.cons_beq_cons, nn, Bool.and_true, Bool.or_false, e1, e2, e3, e4, e5, e6, e7, double]
  simp only [Bool.or_assoc]
theorem sign_step {l : List UInt8} {i : Nat} {c : UInt8} (h : l[i]? = some c) (q : blank c = false) (q1 : ¬ c.toNat = 35) (q2 : small c = false) (q3 : digit c = false) :
    stepL (l.drop i) = if signN (l.drop i) = 0 then .bad else .tok 4 0 (signN (l.drop i)) := by
  have hd := drop_at h
  have hs : (l.drop i)[0]? = some c := by rw [hd]; rfl
  cases h2 : l[i + 1]? with
  | none =>
    have hr : l.drop (i + 1) = [] := List.drop_eq_nil_of_le (List.getElem?_eq_none_iff.1 h2)
    rw [step_one h q q1 q2 q3 (by rw [h2]; rfl)]
    have e : signN (l.drop i) = if single c = true then 1 else 0 := by
      rw [hd, hr]; unfold signN; rw [if_neg (by simp)]; rfl
    rw [e]
    by_cases h1 : single c = true
    · rw [if_pos h1, if_pos h1]; rfl
    · rw [if_neg h1, if_neg h1]; rfl
  | some d =>
    have hr := drop_at h2
    have e : signN (l.drop i) = if double c d = true then 2 else if single c = true then 1 else 0 := by
      rw [hd, hr]; unfold signN
      rw [show List.take 2 (c :: d :: l.drop (i + 1 + 1)) = [c, d] from rfl, double_list]
      rfl
    rw [e]
    by_cases h0 : double c d = true
    · rw [step_two h q q1 q2 q3 h2 h0, if_pos h0]; rfl
    · rw [step_one h q q1 q2 q3 (by rw [h2]; simpa using h0), if_neg h0]
      by_cases h1 : single c = true
      · rw [if_pos h1, if_pos h1]; rfl
      · rw [if_neg h1, if_neg h1]; rfl

theorem name_any (s : ByteArray) (i : Nat) (c : UInt8) (hc : s.data.toList[i]? = some c) (q : blank c = false) (q1 : ¬ c.toNat = 35) (q2 : small c = true) (hs : s.size ≤ 140737488351232) (w : World) :
    Calls Tryz.prog 98 #[.string s, .int .i64 (i : Int)] w fun e w' => WordEnd s.data.toList i e (stepL (s.data.toList.drop i)) ∧ Below w.heap.size w w' := by
  have hi : i < s.size := by have := (List.getElem?_eq_some_iff.1 hc).1; rw [← Lib.size_eq] at this; exact this
  rw [step_name hc q q1 q2]
  by_cases h : 16 < upTo nameC s.data.toList i - i
  · rw [if_pos h]; exact name_bad s i hi w hs h
  · rw [if_neg h]; exact name_ok s i hi w hs h
theorem number_any (s : ByteArray) (i : Nat) (c : UInt8) (hc : s.data.toList[i]? = some c) (q : blank c = false) (q1 : ¬ c.toNat = 35) (q2 : small c = false) (q3 : digit c = true) (hs : s.size ≤ 140737488351232) (w : World) :
    Calls Tryz.prog 100 #[.string s, .int .i64 (i : Int)] w fun e w' => WordEnd s.data.toList i e (stepL (s.data.toList.drop i)) ∧ Below w.heap.size w w' := by
  rw [step_num hc q q1 q2 q3]
  by_cases h9 : 9 < upTo digit s.data.toList i - i
  · rw [if_pos (Or.inl h9)]; exact number_long s i c hc q3 w hs h9
  · by_cases h48 : c.toNat = 48 ∧ 1 < upTo digit s.data.toList i - i
    · rw [if_pos (Or.inr (Or.inl h48))]; exact number_zero s i c hc q3 w hs h9 h48.1 h48.2
    · by_cases hl : (s.data.toList[upTo digit s.data.toList i]?).any small = true
      · rw [if_pos (Or.inr (Or.inr hl))]; exact number_letter s i c hc q3 w hs h9 h48 hl
      · rw [if_neg (fun h => by rcases h with h | h | h; exact h9 h; exact h48 h; exact hl h)]
        have e : numTo s.data.toList i (upTo digit s.data.toList i) = numV ((s.data.toList.drop i).take (upTo digit s.data.toList i - i)) := by
          unfold numTo; rw [show min (upTo digit s.data.toList i - i) 9 = upTo digit s.data.toList i - i by omega]
        rw [e]
        cases hb : s.data.toList[upTo digit s.data.toList i]? with
        | none => exact number_end s i c hc q3 w hs h9 h48 (by rw [Lib.size_eq]; exact List.getElem?_eq_none_iff.1 hb)
        | some b => exact number_other s i c hc q3 w hs h9 h48 b hb (by rw [hb] at hl; simpa using hl)
theorem sign_any (s : ByteArray) (i : Nat) (c : UInt8) (hc : s.data.toList[i]? = some c) (q : blank c = false) (q1 : ¬ c.toNat = 35) (q2 : small c = false) (q3 : digit c = false) (hs : s.size ≤ 140737488351232) (w : World) :
    Calls Tryz.prog 101 #[.string s, .int .i64 (i : Int)] w fun e w' => WordEnd s.data.toList i e (stepL (s.data.toList.drop i)) ∧ Below w.heap.size w w' := by
  have hi : i < s.size := by have := (List.getElem?_eq_some_iff.1 hc).1; rw [← Lib.size_eq] at this; exact this
  rw [sign_step hc q q1 q2 q3]
  by_cases h : signN (s.data.toList.drop i) = 0
  · rw [if_pos h]; exact sign_bad s i hi w h
  · rw [if_neg h]; exact sign_ok s i _ hi w hs rfl (by omega)

set_option maxHeartbeats 4000000 in
theorem word_name_bad (s : ByteArray) (i : Nat) (c : UInt8) (hx : s.data.toList[i]? = some c) (q2 : small c = true) (w : World)
    (hn : ∀ w : World, Calls Tryz.prog 98 #[.string s, .int .i64 (i : Int)] w fun e w' => e = .panicked [{ v := faultV 10 i, recovered := false }] ∧ Below w.heap.size w w') :
    Calls Tryz.prog 71 #[.string s, .int .i64 (i : Int)] w fun e w' => e = .panicked [{ v := faultV 10 i, recovered := false }] ∧ Below w.heap.size w w' := by
  have hi : i < s.size := by have := (List.getElem?_eq_some_iff.1 hx).1; rw [← Lib.size_eq] at this; exact this
  have hi' : (i : Int) < (s.size : Int) := by omega
  have hxx : s[i] = c := by
    obtain ⟨b', h1, h2⟩ := byte_at s hi
    rw [h1]; rw [hx] at h2; exact (Option.some.inj h2).symm
  have HN : Hid (∀ w : World, Calls Tryz.prog 98 #[.string s, .int .i64 (i : Int)] w fun e w' => e = .panicked [{ v := faultV 10 i, recovered := false }] ∧ Below w.heap.size w w') := hn
  clear hx hn
  go_enter Tryz.func71, Tryz.ntmps71
  go_wp2_with (first | (go_at_call 94; refine (isLetter_any _ _).mono ?_; rintro e w' ⟨rfl, rfl⟩) | (go_at_call 99; refine (isDigit_any _ _).mono ?_; rintro e w' ⟨rfl, rfl⟩) | (go_at_call 98; refine (HN.out _).mono ?_; rintro e w1 ⟨rfl, hb⟩; obtain ⟨hc, hf⟩ := bcell hb; have hzz := hb.size; try simp at hzz; have hz0 : w.heap.size < w1.heap.size := (by omega)))
  exact ⟨rfl, rfl, bl2 (ba (Below.refl _ _)) hb⟩
set_option maxHeartbeats 4000000 in
theorem word_name_tok (s : ByteArray) (i : Nat) (c : UInt8) (hx : s.data.toList[i]? = some c) (q2 : small c = true) (w : World) (k v p : Nat) (y : ByteArray)
    (hn : ∀ w : World, Calls Tryz.prog 98 #[.string s, .int .i64 (i : Int)] w fun e w' => e = .returned (.agg #[.int .i64 (k : Int), .string y, .int .i64 (v : Int), .int .i64 (p : Int)]) ∧ Below w.heap.size w w') :
    Calls Tryz.prog 71 #[.string s, .int .i64 (i : Int)] w fun e w' => e = .returned (.agg #[.int .i64 (k : Int), .string y, .int .i64 (v : Int), .int .i64 (p : Int)]) ∧ Below w.heap.size w w' := by
  have hi : i < s.size := by have := (List.getElem?_eq_some_iff.1 hx).1; rw [← Lib.size_eq] at this; exact this
  have hi' : (i : Int) < (s.size : Int) := by omega
  have hxx : s[i] = c := by
    obtain ⟨b', h1, h2⟩ := byte_at s hi
    rw [h1]; rw [hx] at h2; exact (Option.some.inj h2).symm
  have HN : Hid (∀ w : World, Calls Tryz.prog 98 #[.string s, .int .i64 (i : Int)] w fun e w' => e = .returned (.agg #[.int .i64 (k : Int), .string y, .int .i64 (v : Int), .int .i64 (p : Int)]) ∧ Below w.heap.size w w') := hn
  clear hx hn
  go_enter Tryz.func71, Tryz.ntmps71
  go_wp2_with (first | (go_at_call 94; refine (isLetter_any _ _).mono ?_; rintro e w' ⟨rfl, rfl⟩) | (go_at_call 99; refine (isDigit_any _ _).mono ?_; rintro e w' ⟨rfl, rfl⟩) | (go_at_call 98; refine (HN.out _).mono ?_; rintro e w1 ⟨rfl, hb⟩; obtain ⟨hc, hf⟩ := bcell hb; have hzz := hb.size; try simp at hzz; have hz0 : w.heap.size < w1.heap.size := (by omega)))
  refine bodyPost_ret (v := .agg #[.int .i64 (k : Int), .string y, .int .i64 (v : Int), .int .i64 (p : Int)]) (by simp [results, Tryz.results71, go_sem, hc]) rfl ⟨rfl, ?_⟩
  exact bs (bs (bs (bs (bl2 (ba (Below.refl _ _)) hb) (by simp)) (by simp)) (by simp)) (by simp)
set_option maxHeartbeats 4000000 in
theorem word_number_bad (s : ByteArray) (i : Nat) (c : UInt8) (hx : s.data.toList[i]? = some c) (q2 : small c = false) (q3 : digit c = true) (w : World)
    (hn : ∀ w : World, Calls Tryz.prog 100 #[.string s, .int .i64 (i : Int)] w fun e w' => e = .panicked [{ v := faultV 10 i, recovered := false }] ∧ Below w.heap.size w w') :
    Calls Tryz.prog 71 #[.string s, .int .i64 (i : Int)] w fun e w' => e = .panicked [{ v := faultV 10 i, recovered := false }] ∧ Below w.heap.size w w' := by
  have hi : i < s.size := by have := (List.getElem?_eq_some_iff.1 hx).1; rw [← Lib.size_eq] at this; exact this
  have hi' : (i : Int) < (s.size : Int) := by omega
  have hxx : s[i] = c := by
    obtain ⟨b', h1, h2⟩ := byte_at s hi
    rw [h1]; rw [hx] at h2; exact (Option.some.inj h2).symm
  have HN : Hid (∀ w : World, Calls Tryz.prog 100 #[.string s, .int .i64 (i : Int)] w fun e w' => e = .panicked [{ v := faultV 10 i, recovered := false }] ∧ Below w.heap.size w w') := hn
  clear hx hn
  go_enter Tryz.func71, Tryz.ntmps71
  go_wp2_with (first | (go_at_call 94; refine (isLetter_any _ _).mono ?_; rintro e w' ⟨rfl, rfl⟩) | (go_at_call 99; refine (isDigit_any _ _).mono ?_; rintro e w' ⟨rfl, rfl⟩) | (go_at_call 100; refine (HN.out _).mono ?_; rintro e w1 ⟨rfl, hb⟩; obtain ⟨hc, hf⟩ := bcell hb; have hzz := hb.size; try simp at hzz; have hz0 : w.heap.size < w1.heap.size := (by omega)))
  exact ⟨rfl, rfl, bl2 (ba (Below.refl _ _)) hb⟩
set_option maxHeartbeats 4000000 in
theorem word_number_tok (s : ByteArray) (i : Nat) (c : UInt8) (hx : s.data.toList[i]? = some c) (q2 : small c = false) (q3 : digit c = true) (w : World) (k v p : Nat) (y : ByteArray)
    (hn : ∀ w : World, Calls Tryz.prog 100 #[.string s, .int .i64 (i : Int)] w fun e w' => e = .returned (.agg #[.int .i64 (k : Int), .string y, .int .i64 (v : Int), .int .i64 (p : Int)]) ∧ Below w.heap.size w w') :
    Calls Tryz.prog 71 #[.string s, .int .i64 (i : Int)] w fun e w' => e = .returned (.agg #[.int .i64 (k : Int), .string y, .int .i64 (v : Int), .int .i64 (p : Int)]) ∧ Below w.heap.size w w' := by
  have hi : i < s.size := by have := (List.getElem?_eq_some_iff.1 hx).1; rw [← Lib.size_eq] at this; exact this
  have hi' : (i : Int) < (s.size : Int) := by omega
  have hxx : s[i] = c := by
    obtain ⟨b', h1, h2⟩ := byte_at s hi
    rw [h1]; rw [hx] at h2; exact (Option.some.inj h2).symm
  have HN : Hid (∀ w : World, Calls Tryz.prog 100 #[.string s, .int .i64 (i : Int)] w fun e w' => e = .returned (.agg #[.int .i64 (k : Int), .string y, .int .i64 (v : Int), .int .i64 (p : Int)]) ∧ Below w.heap.size w w') := hn
  clear hx hn
  go_enter Tryz.func71, Tryz.ntmps71
  go_wp2_with (first | (go_at_call 94; refine (isLetter_any _ _).mono ?_; rintro e w' ⟨rfl, rfl⟩) | (go_at_call 99; refine (isDigit_any _ _).mono ?_; rintro e w' ⟨rfl, rfl⟩) | (go_at_call 100; refine (HN.out _).mono ?_; rintro e w1 ⟨rfl, hb⟩; obtain ⟨hc, hf⟩ := bcell hb; have hzz := hb.size; try simp at hzz; have hz0 : w.heap.size < w1.heap.size := (by omega)))
  refine bodyPost_ret (v := .agg #[.int .i64 (k : Int), .string y, .int .i64 (v : Int), .int .i64 (p : Int)]) (by simp [results, Tryz.results71, go_sem, hc]) rfl ⟨rfl, ?_⟩
  exact bs (bs (bs (bs (bl2 (ba (Below.refl _ _)) hb) (by simp)) (by simp)) (by simp)) (by simp)
set_option maxHeartbeats 4000000 in
theorem word_sign_bad (s : ByteArray) (i : Nat) (c : UInt8) (hx : s.data.toList[i]? = some c) (q2 : small c = false) (q3 : digit c = false) (w : World)
    (hn : ∀ w : World, Calls Tryz.prog 101 #[.string s, .int .i64 (i : Int)] w fun e w' => e = .panicked [{ v := faultV 10 i, recovered := false }] ∧ Below w.heap.size w w') :
    Calls Tryz.prog 71 #[.string s, .int .i64 (i : Int)] w fun e w' => e = .panicked [{ v := faultV 10 i, recovered := false }] ∧ Below w.heap.size w w' := by
  have hi : i < s.size := by have := (List.getElem?_eq_some_iff.1 hx).1; rw [← Lib.size_eq] at this; exact this
  have hi' : (i : Int) < (s.size : Int) := by omega
  have hxx : s[i] = c := by
    obtain ⟨b', h1, h2⟩ := byte_at s hi
    rw [h1]; rw [hx] at h2; exact (Option.some.inj h2).symm
  have HN : Hid (∀ w : World, Calls Tryz.prog 101 #[.string s, .int .i64 (i : Int)] w fun e w' => e = .panicked [{ v := faultV 10 i, recovered := false }] ∧ Below w.heap.size w w') := hn
  clear hx hn
  go_enter Tryz.func71, Tryz.ntmps71
  go_wp2_with (first | (go_at_call 94; refine (isLetter_any _ _).mono ?_; rintro e w' ⟨rfl, rfl⟩) | (go_at_call 99; refine (isDigit_any _ _).mono ?_; rintro e w' ⟨rfl, rfl⟩) | (go_at_call 101; refine (HN.out _).mono ?_; rintro e w1 ⟨rfl, hb⟩; obtain ⟨hc, hf⟩ := bcell hb; have hzz := hb.size; try simp at hzz; have hz0 : w.heap.size < w1.heap.size := (by omega)))
  exact ⟨rfl, rfl, bl2 (ba (Below.refl _ _)) hb⟩
set_option maxHeartbeats 4000000 in
theorem word_sign_tok (s : ByteArray) (i : Nat) (c : UInt8) (hx : s.data.toList[i]? = some c) (q2 : small c = false) (q3 : digit c = false) (w : World) (k v p : Nat) (y : ByteArray)
    (hn : ∀ w : World, Calls Tryz.prog 101 #[.string s, .int .i64 (i : Int)] w fun e w' => e = .returned (.agg #[.int .i64 (k : Int), .string y, .int .i64 (v : Int), .int .i64 (p : Int)]) ∧ Below w.heap.size w w') :
    Calls Tryz.prog 71 #[.string s, .int .i64 (i : Int)] w fun e w' => e = .returned (.agg #[.int .i64 (k : Int), .string y, .int .i64 (v : Int), .int .i64 (p : Int)]) ∧ Below w.heap.size w w' := by
  have hi : i < s.size := by have := (List.getElem?_eq_some_iff.1 hx).1; rw [← Lib.size_eq] at this; exact this
  have hi' : (i : Int) < (s.size : Int) := by omega
  have hxx : s[i] = c := by
    obtain ⟨b', h1, h2⟩ := byte_at s hi
    rw [h1]; rw [hx] at h2; exact (Option.some.inj h2).symm
  have HN : Hid (∀ w : World, Calls Tryz.prog 101 #[.string s, .int .i64 (i : Int)] w fun e w' => e = .returned (.agg #[.int .i64 (k : Int), .string y, .int .i64 (v : Int), .int .i64 (p : Int)]) ∧ Below w.heap.size w w') := hn
  clear hx hn
  go_enter Tryz.func71, Tryz.ntmps71
  go_wp2_with (first | (go_at_call 94; refine (isLetter_any _ _).mono ?_; rintro e w' ⟨rfl, rfl⟩) | (go_at_call 99; refine (isDigit_any _ _).mono ?_; rintro e w' ⟨rfl, rfl⟩) | (go_at_call 101; refine (HN.out _).mono ?_; rintro e w1 ⟨rfl, hb⟩; obtain ⟨hc, hf⟩ := bcell hb; have hzz := hb.size; try simp at hzz; have hz0 : w.heap.size < w1.heap.size := (by omega)))
  refine bodyPost_ret (v := .agg #[.int .i64 (k : Int), .string y, .int .i64 (v : Int), .int .i64 (p : Int)]) (by simp [results, Tryz.results71, go_sem, hc]) rfl ⟨rfl, ?_⟩
  exact bs (bs (bs (bs (bl2 (ba (Below.refl _ _)) hb) (by simp)) (by simp)) (by simp)) (by simp)

theorem bare_iff {c : UInt8} (h : bare c = true) : blank c = false ∧ ¬ c.toNat = 35 := by
  unfold bare at h
  simpa using h
theorem word_any (s : ByteArray) (i : Nat) (c : UInt8) (hx : s.data.toList[i]? = some c) (hb : bare c = true) (hs : s.size ≤ 140737488351232) (w : World) :
    Calls Tryz.prog 71 #[.string s, .int .i64 (i : Int)] w fun e w' => WordEnd s.data.toList i e (stepL (s.data.toList.drop i)) ∧ Below w.heap.size w w' := by
  obtain ⟨q, q1⟩ := bare_iff hb
  cases q2 : small c
  · cases q3 : digit c
    · have h := sign_any s i c hx q q1 q2 q3 hs
      cases e : stepL (s.data.toList.drop i) with
      | skip n => exfalso; rw [sign_step hx q q1 q2 q3] at e; split at e <;> cases e
      | bad => rw [e] at h; exact word_sign_bad s i c hx q2 q3 w h
      | tok k v n => rw [e] at h; exact word_sign_tok s i c hx q2 q3 w k v i _ h
    · have h := number_any s i c hx q q1 q2 q3 hs
      cases e : stepL (s.data.toList.drop i) with
      | skip n => exfalso; rw [step_num hx q q1 q2 q3] at e; split at e <;> cases e
      | bad => rw [e] at h; exact word_number_bad s i c hx q2 q3 w h
      | tok k v n => rw [e] at h; exact word_number_tok s i c hx q2 q3 w k v i _ h
  · have h := name_any s i c hx q q1 q2 hs
    cases e : stepL (s.data.toList.drop i) with
    | skip n => exfalso; rw [step_name hx q q1 q2] at e; split at e <;> cases e
    | bad => rw [e] at h; exact word_name_bad s i c hx q2 w h
    | tok k v n => rw [e] at h; exact word_name_tok s i c hx q2 w k v i _ h
end Go.Proofs.YtkljakeccfnakaaGreatDoor

namespace Go.Proofs.YtkljakeccfnakaaGreatDoor
open Go.RowKit

theorem info5 : ∃ i0, Tryz.prog.info? 5 = some i0 ∧ i0.zero = some (.int .u8 0) ∧ i0.size = 1 ∧ i0.bytes = 1 := by
  have h : (Tryz.prog.info? 5).map (fun i => (i.zero, i.size, i.bytes)) = some (some (.int .u8 0), 1, 1) := by kernel_rfl
  cases e : Tryz.prog.info? 5 with
  | none => rw [e] at h; cases h
  | some i0 =>
    rw [e] at h
    simp only [Option.map_some, Option.some.injEq, Prod.mk.injEq] at h
    exact ⟨i0, rfl, h.1, h.2.1, h.2.2⟩

set_option maxRecDepth 100000 in
set_option maxHeartbeats 4000000 in
theorem sliteClone_any (s : ByteArray) (w : World) (hlim : s.size ≤ 140737488351232) :
    Calls Tryz.prog 72 #[.string s] w fun e w' => e = .returned (.string s) ∧ Below w.heap.size w w' := by
  by_cases h0 : s.size = 0
  · have hs : s = ⟨#[]⟩ := by
      apply ByteArray.ext
      exact Array.eq_empty_of_size_eq_zero h0
    subst hs
    go_enter Tryz.func72, Tryz.ntmps72
    go_wp2
    go_ret
    exact ⟨rfl, Below.refl _ _⟩
  · obtain ⟨i0, hi, hz0, hz1, hz2⟩ := info5
    have hinfo : (Tryz.prog.info? 5).map (·.size) = some 1 := by rw [hi]; simp [hz1]
    have hco : Tryz.prog.cellsOf 5 = 1 := by simp [Program.cellsOf, hi, hz1]
    obtain ⟨M, hM⟩ : ∃ M, M = madeCells (Value.int .u8 0).cells (((s.size : Nat) : Int).toNat * i0.size) := ⟨_, rfl⟩
    have hMs : M.size = s.size := by rw [hM, size_madeCells, hz1]; simp
    have hmk : ∀ W : World, (Instr.makeSlice 52 (.int .i64 (s.size : Int)) (.int .i64 (s.size : Int))).run Tryz.prog W = .ok (.slice (some ⟨W.heap.size, 0, none⟩) s.size s.size) (W.alloc (.cells M 5)) := fun W => by
      have h := run_make (P := Tryz.prog) W 52 5 i0 (.int .u8 0) Tryz.underlying52 hi hz0 .i64 .i64 (s.size : Int) (s.size : Int) (by omega) (by omega) (by rw [hz2]; omega) (by omega)
      rw [← hM] at h
      simpa using h
    clear hM
    have hcp := Lib.run_copy_row_string (P := Tryz.prog) (w.alloc (.cells M 5)) 52 9 3 5 w.heap.size 0 s.size s.size s M 5 Tryz.underlying52 hinfo (heap_alloc_new w _) (Nat.le_refl _) (by omega)
    obtain ⟨Y, hY⟩ : ∃ Y, Y = (M.toList.take 0 ++ Lib.byteCells s.data.toList ++ M.toList.drop (0 + s.size)).toArray := ⟨_, rfl⟩
    rw [← hY] at hcp
    have hYl : Y.toList = Lib.byteCells s.data.toList := by
      rw [hY, List.toList_toArray, List.take_zero, List.nil_append, List.drop_of_length_le (by rw [Array.length_toList]; omega), List.append_nil]
    have hYs : Y.size = s.size := by rw [← Array.length_toList, hYl, Lib.byteCells_length, ← Lib.size_eq]
    have hgY : ((w.alloc (.cells M 5)).setRow w.heap.size Y).heap[w.heap.size]? = some (.cells Y 5 (0, 0)) := setRow_heap _ _ M _ 5 (0, 0) (heap_alloc_new w _)
    have hne : s.data.toList ≠ [] := fun e => h0 (by rw [Lib.size_eq, e]; rfl)
    have hUS := Lib.run_unsafeString_row (P := Tryz.prog) ((w.alloc (.cells M 5)).setRow w.heap.size Y) 100 3 9 5 Tryz.underlying100 hco w.heap.size Y.size (by unfold World.shape?; rw [hgY]) s.data.toList hne (by rw [← Lib.size_eq]; omega) (by rw [← Lib.size_eq]; omega)
      (fun j x hx => Lib.cells_of_row hgY Y.size j _ (by rw [List.take_of_length_le (by rw [Array.length_toList]; exact Nat.le_refl _), hYl]; simp [Lib.byteCells, hx]))
    rw [← Lib.size_eq] at hUS
    clear hY
    go_enter Tryz.func72, Tryz.ntmps72
    go_wp2
    go_ret
    have hb1 : Below w.heap.size w (w.alloc (.cells M 5)) := (Below.refl _ w).alloc (Nat.le_refl _) _
    have hb2 : Below w.heap.size (w.alloc (.cells M 5)) ((w.alloc (.cells M 5)).setRow w.heap.size Y) := ⟨rfl, rfl, rfl, by simp, fun k hk => setRow_other _ _ _ _ (by omega)⟩
    exact ⟨rfl, Lib.below_freeze (hb1.trans hb2) (p := ⟨w.heap.size, 0, none⟩) (Nat.le_refl _) _⟩

set_option maxHeartbeats 400000 in
theorem clone_any (s : ByteArray) (w : World) (hlim : s.size ≤ 140737488351232) :
    Calls Tryz.prog 35 #[.string s] w fun e w' => e = .returned (.string s) ∧ Below w.heap.size w w' := by
  go_enter Tryz.func35, Tryz.ntmps35
  go_wp2_with (go_at_call 72; refine (sliteClone_any _ _ hlim).mono ?_; rintro e w' ⟨rfl, hb⟩)
  go_ret
  exact ⟨rfl, hb⟩
end Go.Proofs.YtkljakeccfnakaaGreatDoor
