/-
  The walks of the document's own small functions of layer 4.
-/
import Derived.Test.YtjhjfmmhcpmcbaaDoorProg
import Derived.Test.YtjhjfmmhcpmcbaaDoorM
import Derived.WalkKit
import Derived.WalkSpells
import Derived.WalkLawsBesides
import Derived.Deep.QuietTactic
import Derived.BigQuiet
import Derived.Lib.Strings
namespace Go.Proofs.YtjhjfmmhcpmcbaaDoor
open Go.RowKit

theorem ret_int {k : IntKind} {a b : Int} (h : a = b) : Ending.returned (.int k a) = .returned (.int k b) := by rw [h]
theorem ret_bool {a b : Bool} (h : a = b) : Ending.returned (.bool a) = .returned (.bool b) := by rw [h]

set_option maxHeartbeats 400000 in
theorem refSmall_any (c : UInt8) (w : World) :
    Calls Tryd.prog 17 #[.int .u8 (c.toNat : Int)] w fun e w' => e = .returned (.bool (small c)) ∧ w' = w := by
  unfold small
  generalize c.toNat = n
  by_cases h : 97 ≤ n
  · have h' : (97 : Int) ≤ (n : Int) := by omega
    go_enter Tryd.func17, Tryd.ntmps17
    go_wp2
    go_ret
    exact ⟨ret_bool (by first | rfl | (rw [Bool.eq_iff_iff]; first | done | (simp; done) | (simp; omega))), rfl⟩
  · have h' : ¬ (97 : Int) ≤ (n : Int) := by omega
    go_enter Tryd.func17, Tryd.ntmps17
    go_wp2
    go_ret
    exact ⟨ret_bool (by first | rfl | (rw [Bool.eq_iff_iff]; first | done | (simp; done) | (simp; omega))), rfl⟩
set_option maxHeartbeats 400000 in
theorem refDigit_any (c : UInt8) (w : World) :
    Calls Tryd.prog 18 #[.int .u8 (c.toNat : Int)] w fun e w' => e = .returned (.bool (digit c)) ∧ w' = w := by
  unfold digit
  generalize c.toNat = n
  by_cases h : 48 ≤ n
  · have h' : (48 : Int) ≤ (n : Int) := by omega
    go_enter Tryd.func18, Tryd.ntmps18
    go_wp2
    go_ret
    exact ⟨ret_bool (by first | rfl | (rw [Bool.eq_iff_iff]; first | done | (simp; done) | (simp; omega))), rfl⟩
  · have h' : ¬ (48 : Int) ≤ (n : Int) := by omega
    go_enter Tryd.func18, Tryd.ntmps18
    go_wp2
    go_ret
    exact ⟨ret_bool (by first | rfl | (rw [Bool.eq_iff_iff]; first | done | (simp; done) | (simp; omega))), rfl⟩

def singleB (c : Int) : Bool := c == 40 || c == 41 || c == 93 || c == 59 || c == 44 || c == 33 || c == 124 || c == 61 || c == 60 || c == 43 || c == 45 || c == 42 || c == 47
def doubleB (a b : Int) : Bool := (a == 58 && b == 61) || (a == 60 && b == 45) || (a == 45 && b == 62) || (a == 46 && b == 91)

set_option maxHeartbeats 1000000 in
theorem refSingle_int (c : Int) (w : World) :
    Calls Tryd.prog 21 #[.int .u8 c] w fun e w' => e = .returned (.bool (singleB c)) ∧ w' = w := by
  by_cases h : singleB c = true
  · have h' := h
    unfold singleB at h'
    simp only [Bool.or_eq_true, beq_iff_eq] at h'
    rw [h]
    rcases h' with ((((((((((((rfl | rfl) | rfl) | rfl) | rfl) | rfl) | rfl) | rfl) | rfl) | rfl) | rfl) | rfl) | rfl)
    all_goals
      clear h
      go_enter Tryd.func21, Tryd.ntmps21
      go_wp2
      go_ret
      exact ⟨rfl, rfl⟩
  · have h' := h
    unfold singleB at h'
    simp only [Bool.or_eq_true, not_or, Bool.not_eq_true] at h'
    obtain ⟨⟨⟨⟨⟨⟨⟨⟨⟨⟨⟨⟨h0, h1⟩, h2⟩, h3⟩, h4⟩, h5⟩, h6⟩, h7⟩, h8⟩, h9⟩, h10⟩, h11⟩, h12⟩ := h'
    rw [Bool.not_eq_true] at h
    rw [h]
    clear h
    go_enter Tryd.func21, Tryd.ntmps21
    go_wp2
    go_ret
    exact ⟨rfl, rfl⟩

set_option maxHeartbeats 1000000 in
theorem refDouble_int (a b : Int) (w : World) :
    Calls Tryd.prog 20 #[.int .u8 a, .int .u8 b] w fun e w' => e = .returned (.bool (doubleB a b)) ∧ w' = w := by
  cases h1 : (a == 58)
  · cases h2 : (a == 60)
    · cases h3 : (a == 45)
      · cases h4 : (a == 46)
        · go_enter Tryd.func20, Tryd.ntmps20
          go_wp2
          go_ret
          exact ⟨ret_bool (by simp [doubleB, h1, h2, h3, h4]), rfl⟩
        · go_enter Tryd.func20, Tryd.ntmps20
          go_wp2
          go_ret
          exact ⟨ret_bool (by simp [doubleB, h1, h2, h3, h4]), rfl⟩
      · have h4 : (a == 46) = false := by rw [beq_iff_eq] at h3; subst h3; rfl
        cases h5 : (b == 62)
        · go_enter Tryd.func20, Tryd.ntmps20
          go_wp2
          go_ret
          exact ⟨ret_bool (by simp [doubleB, h1, h2, h3, h4, h5]), rfl⟩
        · go_enter Tryd.func20, Tryd.ntmps20
          go_wp2
          go_ret
          exact ⟨ret_bool (by simp [doubleB, h1, h2, h3, h4, h5]), rfl⟩
    · have h3 : (a == 45) = false := by rw [beq_iff_eq] at h2; subst h2; rfl
      have h4 : (a == 46) = false := by rw [beq_iff_eq] at h2; subst h2; rfl
      cases h5 : (b == 45)
      · go_enter Tryd.func20, Tryd.ntmps20
        go_wp2
        go_ret
        exact ⟨ret_bool (by simp [doubleB, h1, h2, h3, h4, h5]), rfl⟩
      · go_enter Tryd.func20, Tryd.ntmps20
        go_wp2
        go_ret
        exact ⟨ret_bool (by simp [doubleB, h1, h2, h3, h4, h5]), rfl⟩
  · have h2 : (a == 60) = false := by rw [beq_iff_eq] at h1; subst h1; rfl
    have h3 : (a == 45) = false := by rw [beq_iff_eq] at h1; subst h1; rfl
    have h4 : (a == 46) = false := by rw [beq_iff_eq] at h1; subst h1; rfl
    cases h5 : (b == 61)
    · go_enter Tryd.func20, Tryd.ntmps20
      go_wp2
      go_ret
      exact ⟨ret_bool (by simp [doubleB, h1, h2, h3, h4, h5]), rfl⟩
    · go_enter Tryd.func20, Tryd.ntmps20
      go_wp2
      go_ret
      exact ⟨ret_bool (by simp [doubleB, h1, h2, h3, h4, h5]), rfl⟩

theorem cast_eq (n k : Nat) : ((n : Int) == (k : Int)) = decide (n = k) := by
  rw [Bool.eq_iff_iff, beq_iff_eq, decide_eq_true_iff]; omega
theorem refSingle_any (c : UInt8) (w : World) :
    Calls Tryd.prog 21 #[.int .u8 (c.toNat : Int)] w fun e w' => e = .returned (.bool (single c)) ∧ w' = w := by
  have e : singleB (c.toNat : Int) = single c := by
    unfold singleB single
    simp only [← cast_eq]; rfl
  rw [← e]; exact refSingle_int _ w
theorem refDouble_any (a b : UInt8) (w : World) :
    Calls Tryd.prog 20 #[.int .u8 (a.toNat : Int), .int .u8 (b.toNat : Int)] w fun e w' => e = .returned (.bool (double a b)) ∧ w' = w := by
  have e : doubleB (a.toNat : Int) (b.toNat : Int) = double a b := by
    unfold doubleB double
    simp only [← cast_eq]; rfl
  rw [← e]; exact refDouble_int _ _ w

/-- The words of the language in one text, a blank around each. -/
def keysL : List UInt8 := [32, 99, 101, 108, 108, 32, 97, 116, 111, 109, 32, 114, 111, 119, 32, 100, 111, 109, 97, 105, 110, 32, 101, 110, 100, 32, 108, 101, 116, 32, 105, 110, 32, 105, 102, 32, 116, 104, 101, 110, 32, 101, 108, 115, 101, 32, 102, 117, 110, 32, 109, 97, 116, 99, 104, 32, 119, 105, 116, 104, 32, 110, 111, 110, 101, 32, 115, 111, 109, 101, 32, 116, 114, 117, 101, 32, 102, 97, 108, 115, 101, 32, 112, 114, 105, 110, 116, 32, 115, 119, 97, 112, 32, 97, 100, 100, 32, 99, 97, 115, 32]
def hitAt (l : List UInt8) (i : Nat) : Prop := i + l.length + 2 ≤ 101 ∧ (keysL.drop i).take (l.length + 2) = 32 :: (l ++ [32])
def not32 (c : UInt8) : Bool := !decide (c.toNat = 32)
theorem words_all : ∀ i, i < 100 → keysL[i]? = some 32 → keyB ((keysL.drop (i + 1)).takeWhile not32) = true := by decide +kernel
theorem words_hit : ∀ l ∈ keyL, ∃ i, i < 101 ∧ i + l.length + 2 ≤ 101 ∧ (keysL.drop i).take (l.length + 2) = 32 :: (l ++ [32]) := by decide +kernel
theorem hit_key {l : List UInt8} {i : Nat} (hl : ∀ c ∈ l, not32 c = true) (h : hitAt l i) : keyB l = true := by
  obtain ⟨h1, h2⟩ := h
  have hi : i < 100 := by omega
  have hk : keysL.length = 101 := by decide
  have h0 : keysL[i]? = some 32 := by
    have : ((keysL.drop i).take (l.length + 2))[0]? = some 32 := by rw [h2]; rfl
    rwa [List.getElem?_take_of_lt (by omega), List.getElem?_drop, Nat.add_zero] at this
  have hd : keysL.drop i = 32 :: keysL.drop (i + 1) := by
    rw [List.drop_eq_getElem_cons (by omega)]
    congr 1
    rw [List.getElem?_eq_getElem (by omega)] at h0
    exact Option.some.inj h0
  rw [hd, List.take_succ_cons, List.cons.injEq] at h2
  have h3 := h2.2
  have hw := words_all i hi h0
  have e : (keysL.drop (i + 1)).takeWhile not32 = l := by
    rw [← List.take_append_drop (l.length + 1) (keysL.drop (i + 1)), h3, List.append_assoc, List.takeWhile_append_of_pos hl]
    simp [not32]
  rwa [e] at hw
theorem key_hit {l : List UInt8} (h : keyB l = true) : ∃ i, i < 101 ∧ hitAt l i := by
  unfold keyB at h
  rw [List.contains_iff_mem] at h
  obtain ⟨i, h1, h2, h3⟩ := words_hit l h
  exact ⟨i, h1, h2, h3⟩
theorem key_len {l : List UInt8} (h : keyB l = true) : 0 < l.length := by
  unfold keyB at h
  rw [List.contains_iff_mem] at h
  have : ∀ l ∈ keyL, 0 < l.length := by decide
  exact this l h
theorem hit_raw (s : ByteArray) (i : Nat) (h : i + s.size + 2 ≤ 101) : ((((⟨keysL.toArray⟩ : ByteArray).extract i (i + s.size + 2)).toList == (({ data := #[32] } : ByteArray) ++ s ++ { data := #[32] }).toList) = true) ↔ hitAt s.data.toList i := by
  rw [Lib.extract_toList, beq_iff_eq, Lib.toList_data]
  have e1 : i + s.size + 2 - i = s.data.toList.length + 2 := by rw [← Lib.size_eq]; omega
  have e2 : (({ data := #[32] } : ByteArray) ++ s ++ { data := #[32] }).data.toList = 32 :: (s.data.toList ++ [32]) := by simp
  rw [e1, e2]
  unfold hitAt
  rw [← Lib.size_eq]
  exact ⟨fun g => ⟨h, g⟩, fun g => g.2⟩

set_option maxHeartbeats 1000000 in
theorem refKey_any (s : ByteArray) (w : World) (hs : s.size ≤ 140737488351232) (hl : ∀ c ∈ s.data.toList, not32 c = true) :
    Calls Tryd.prog 19 #[.string s] w fun e w' => e = .returned (.bool (keyB s.data.toList)) ∧ w' = w := by
  have HL : Hid (∀ c ∈ s.data.toList, not32 c = true) := hl
  clear hl
  go_enter Tryd.func19, Tryd.ntmps19
  go_wp2
  go_loopw [3] (fun t wr => ∃ (i : Nat), i ≤ 101 ∧ t = .int .i64 i ∧ Hid (∀ j, j < i → ¬ hitAt s.data.toList j) ∧ wr = w) (fun t _ => 101 - (intOf t).toNat)
  case atStart => exact ⟨0, Nat.zero_le _, rfl, fun j hj => by omega, rfl⟩
  case round =>
    obtain ⟨i, hi, rfl, hno, rfl⟩ := hrel
    by_cases c : i + s.size + 2 ≤ 101
    · have c' : (i : Int) + (s.size : Int) + 2 ≤ 101 := by omega
      have R : Hid (((((⟨keysL.toArray⟩ : ByteArray).extract i (i + s.size + 2)).toList == (({ data := #[32] } : ByteArray) ++ s ++ { data := #[32] }).toList) = true) ↔ hitAt s.data.toList i) := hit_raw s i c
      go_wp2_with fail
      · rename_i hh
        go_ret
        have hk := hit_key HL.out (R.out.1 hh)
        have := key_len hk
        rw [← Lib.size_eq] at this
        exact ⟨ret_bool (by rw [hk, decide_eq_true_iff]; exact this), rfl⟩
      · rename_i hh
        refine ⟨⟨i + 1, by omega, by go_num, fun j hj hx => ?_, trivial⟩, by simp [intOf]; omega⟩
        by_cases e : j = i
        · subst e; have := R.out.2 hx; cases (this.symm.trans hh)
        · exact hno.out j (by omega) hx
    · go_wp2_with fail
      go_ret
      refine ⟨ret_bool ?_, rfl⟩
      cases hk : keyB s.data.toList
      · rfl
      · obtain ⟨j, h1, h2⟩ := key_hit hk
        have h3 := h2.1
        rw [← Lib.size_eq] at h3
        exact absurd h2 (hno.out j (by omega))
end Go.Proofs.YtjhjfmmhcpmcbaaDoor
