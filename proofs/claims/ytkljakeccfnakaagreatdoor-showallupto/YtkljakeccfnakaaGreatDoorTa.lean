/-
  The document's own IsName and the program's.
  Programs, as plain data: what a formed one is, and its text. No program is named here.
-/
import Derived.Test.YtkljakeccfnakaaGreatDoorLl
import Derived.Test.YtkljakeccfnakaaGreatDoorGg
import Derived.Lib.ItoaNum
namespace Go.Proofs.YtkljakeccfnakaaGreatDoor
open Go.RowKit

set_option maxHeartbeats 400000 in
theorem refSmall_any (c : UInt8) (w : World) :
    Calls Tryz.prog 58 #[.int .u8 (c.toNat : Int)] w fun e w' => e = .returned (.bool (small c)) ∧ w' = w := by
  unfold small
  generalize c.toNat = n
  by_cases h : 97 ≤ n
  · have h' : (97 : Int) ≤ (n : Int) := by omega
    go_enter Tryz.func58, Tryz.ntmps58
    go_wp2
    go_ret
    exact ⟨ret_bool (by first | rfl | (rw [Bool.eq_iff_iff]; first | done | (simp; done) | (simp; omega))), rfl⟩
  · have h' : ¬ (97 : Int) ≤ (n : Int) := by omega
    go_enter Tryz.func58, Tryz.ntmps58
    go_wp2
    go_ret
    exact ⟨ret_bool (by first | rfl | (rw [Bool.eq_iff_iff]; first | done | (simp; done) | (simp; omega))), rfl⟩
set_option maxHeartbeats 400000 in
theorem refDigit_any (c : UInt8) (w : World) :
    Calls Tryz.prog 59 #[.int .u8 (c.toNat : Int)] w fun e w' => e = .returned (.bool (digit c)) ∧ w' = w := by
  unfold digit
  generalize c.toNat = n
  by_cases h : 48 ≤ n
  · have h' : (48 : Int) ≤ (n : Int) := by omega
    go_enter Tryz.func59, Tryz.ntmps59
    go_wp2
    go_ret
    exact ⟨ret_bool (by first | rfl | (rw [Bool.eq_iff_iff]; first | done | (simp; done) | (simp; omega))), rfl⟩
  · have h' : ¬ (48 : Int) ≤ (n : Int) := by omega
    go_enter Tryz.func59, Tryz.ntmps59
    go_wp2
    go_ret
    exact ⟨ret_bool (by first | rfl | (rw [Bool.eq_iff_iff]; first | done | (simp; done) | (simp; omega))), rfl⟩

set_option maxHeartbeats 1000000 in
theorem refKey_any (s : ByteArray) (w : World) (hs : s.size ≤ 140737488351232) (hl : ∀ c ∈ s.data.toList, not32 c = true) :
    Calls Tryz.prog 60 #[.string s] w fun e w' => e = .returned (.bool (keyB s.data.toList)) ∧ w' = w := by
  have HL : Hid (∀ c ∈ s.data.toList, not32 c = true) := hl
  clear hl
  go_enter Tryz.func60, Tryz.ntmps60
  go_wp2
  go_loopw [3] (fun t wr => ∃ (i : Nat), i ≤ 101 ∧ t = .int .i64 i ∧ Hid (∀ j, j < i → ¬ hitAt s.data.toList j) ∧ wr = w) (fun t _ => 101 - (intOf t).toNat)
  case atStart => exact ⟨0, Nat.zero_le _, rfl, fun j hj => by omega, rfl⟩
  case round =>
    obtain ⟨i, hi, rfl, hno, rfl⟩ := hrel
    by_cases c : i + s.size + 2 ≤ 101
    · have c' : (i : Int) + (s.size : Int) + 2 ≤ 101 := by omega
      have R : Hid (((((⟨keysL.toArray⟩ : ByteArray).extract i (i + s.size + 2)).toList == (({ data := #[32] } : ByteArray) ++ s ++ { data := #[32] }).toList) = true) ↔ hitAt s.data.toList i) := hit_raw s i c
      go_wp2_with fail
      · rename_i hh
        go_ret
        have hk := hit_key HL.out (R.out.1 hh)
        have := key_len hk
        rw [← Lib.size_eq] at this
        exact ⟨ret_bool (by rw [hk, decide_eq_true_iff]; exact this), rfl⟩
      · rename_i hh
        refine ⟨⟨i + 1, by omega, by go_num, fun j hj hx => ?_, trivial⟩, by simp [intOf]; omega⟩
        by_cases e : j = i
        · subst e; have := R.out.2 hx; cases (this.symm.trans hh)
        · exact hno.out j (by omega) hx
    · go_wp2_with fail
      go_ret
      refine ⟨ret_bool ?_, rfl⟩
      cases hk : keyB s.data.toList
      · rfl
      · obtain ⟨j, h1, h2⟩ := key_hit hk
        have h3 := h2.1
        rw [← Lib.size_eq] at h3
        exact absurd h2 (hno.out j (by omega))

set_option maxHeartbeats 2000000 in
theorem refIsName_any (s : ByteArray) (w : World) (hs : s.size ≤ 140737488351232) :
    Calls Tryz.prog 27 #[.string s] w fun e w' => e = .returned (.bool (isNameB s.data.toList)) ∧ w' = w := by
  go_enter Tryz.func27, Tryz.ntmps27
  go_wp2
  go_loopw [3] (fun t wr => ∃ (i : Nat), i ≤ s.size ∧ t = .int .i64 i ∧ Hid (NameTo s.data.toList i) ∧ wr = w) (fun t _ => s.size - (intOf t).toNat)
  case atStart => exact ⟨0, Nat.zero_le _, rfl, fun j c hj => by omega, rfl⟩
  case round =>
    obtain ⟨i, hi, rfl, hn, rfl⟩ := hrel
    by_cases c : i < s.size
    · have c' : (i : Int) < (s.size : Int) := by omega
      obtain ⟨ch, hch, hl⟩ := byte_at s c
      have HL : Hid (s.data.toList[i]? = some ch) := hl
      clear hl
      cases q1 : small ch
      · by_cases z : i = 0
        · have z' : ((i : Int) == 0) = true := by rw [beq_iff_eq]; omega
          have N : Hid (isNameB s.data.toList = false) := NameTo.not HL.out q1 (Or.inl z)
          clear z
          go_wp2_with (first | (go_at_call 58; refine (refSmall_any _ _).mono ?_; rintro e w' ⟨rfl, rfl⟩) | (go_at_call 59; refine (refDigit_any _ _).mono ?_; rintro e w' ⟨rfl, rfl⟩))
          go_ret
          exact ⟨ret_bool N.out.symm, rfl⟩
        · have z' : ((i : Int) == 0) = false := by rw [beq_eq_false_iff_ne]; omega
          cases q2 : digit ch
          · have N : Hid (isNameB s.data.toList = false) := NameTo.not HL.out q1 (Or.inr q2)
            go_wp2_with (first | (go_at_call 58; refine (refSmall_any _ _).mono ?_; rintro e w' ⟨rfl, rfl⟩) | (go_at_call 59; refine (refDigit_any _ _).mono ?_; rintro e w' ⟨rfl, rfl⟩))
            go_ret
            exact ⟨ret_bool N.out.symm, rfl⟩
          · go_wp2_with (first | (go_at_call 58; refine (refSmall_any _ _).mono ?_; rintro e w' ⟨rfl, rfl⟩) | (go_at_call 59; refine (refDigit_any _ _).mono ?_; rintro e w' ⟨rfl, rfl⟩))
            go_roundw
            case rel =>
              exact ⟨i + 1, by omega, by go_num, fun j d hj hd => by
                by_cases e : j = i
                · subst e
                  rw [HL.out] at hd
                  obtain rfl := Option.some.inj hd
                  exact Or.inr ⟨z, q2⟩
                · exact hn.out j d (by omega) hd, by first | rfl | trivial⟩
            case measure => simp [intOf]; omega
      · go_wp2_with (first | (go_at_call 58; refine (refSmall_any _ _).mono ?_; rintro e w' ⟨rfl, rfl⟩) | (go_at_call 59; refine (refDigit_any _ _).mono ?_; rintro e w' ⟨rfl, rfl⟩))
        go_roundw
        case rel =>
          exact ⟨i + 1, by omega, by go_num, fun j d hj hd => by
            by_cases e : j = i
            · subst e
              rw [HL.out] at hd
              obtain rfl := Option.some.inj hd
              exact Or.inl q1
            · exact hn.out j d (by omega) hd, by first | rfl | trivial⟩
        case measure => simp [intOf]; omega
    · have ei : i = s.size := by omega
      have A : Hid (s.data.toList.all nameC = true ∧ (s.data.toList ≠ [] → firstB s.data.toList = true)) := by
        have := hn.out
        rw [ei, Lib.size_eq] at this
        exact this.all
      have K : Hid (∀ c ∈ s.data.toList, not32 c = true) := fun c hc => name_not32 (List.all_eq_true.1 A.out.1 c hc)
      clear ei
      by_cases c1 : 1 ≤ s.size
      · have c1' : (1 : Int) ≤ (s.size : Int) := by omega
        have F : Hid (firstB s.data.toList = true) := A.out.2 (fun e => by rw [Lib.size_eq, e] at c1; simp at c1)
        by_cases c2 : s.size ≤ 16
        · have c2' : (s.size : Int) ≤ 16 := by omega
          go_wp2_with (go_at_call 60; refine (refKey_any _ _ (by assumption) K.out).mono ?_; rintro e w' ⟨rfl, rfl⟩)
          go_ret
          refine ⟨ret_bool ?_, rfl⟩
          unfold isNameB
          rw [F.out, A.out.1, ← Lib.size_eq, decide_eq_true c2]
          simp
        · have c2' : ¬ ((s.size : Int) ≤ 16) := by omega
          go_wp2_with fail
          go_ret
          refine ⟨ret_bool ?_, rfl⟩
          unfold isNameB
          rw [← Lib.size_eq, decide_eq_false c2]
          simp
      · have c1' : ¬ ((1 : Int) ≤ (s.size : Int)) := by omega
        go_wp2_with fail
        go_ret
        refine ⟨ret_bool ?_, rfl⟩
        have e : s.data.toList = [] := List.eq_nil_of_length_eq_zero (by rw [← Lib.size_eq]; omega)
        rw [e]; rfl


set_option maxHeartbeats 2000000 in
theorem isName_any (s : ByteArray) (w : World) (hs : s.size ≤ 140737488351232) :
    Calls Tryz.prog 64 #[.string s] w fun e w' => e = .returned (.bool (isNameB s.data.toList)) ∧ w' = w := by
  by_cases c0 : s.size = 0
  · have e0 : s.data.toList = [] := List.eq_nil_of_length_eq_zero (by rw [← Lib.size_eq]; exact c0)
    have hq : (s.toList == []) = true := by rw [Lib.toList_data, e0]; rfl
    have N : Hid (isNameB s.data.toList = false) := by show isNameB s.data.toList = false; rw [e0]; rfl
    clear e0
    go_enter Tryz.func64, Tryz.ntmps64
    go_wp2_with fail
    go_ret
    exact ⟨ret_bool (by rw [N.out]), rfl⟩
  · have hp : 0 < s.size := by omega
    have hq : (s.toList == []) = false := by
      rw [Lib.toList_data, beq_eq_false_iff_ne]
      intro e; rw [Lib.size_eq, e] at c0; exact c0 rfl
    obtain ⟨ch, hch, hl⟩ := byte_at s hp
    have HL : Hid (s.data.toList[0]? = some ch) := hl
    have F : Hid (firstB s.data.toList = small ch) := by show firstB s.data.toList = small ch; unfold firstB; rw [hl]; rfl
    clear hl
    by_cases c1 : s.size ≤ 16
    · have c1' : (s.size : Int) ≤ 16 := by omega
      cases q1 : small ch
      · go_enter Tryz.func64, Tryz.ntmps64
        go_wp2_with (go_at_call 94; refine (isLetter_any _ _).mono ?_; rintro e w' ⟨rfl, rfl⟩)
        go_ret
        exact ⟨ret_bool (by unfold isNameB; rw [F.out, q1]; rfl), rfl⟩
      · by_cases c2 : upTo nameC s.data.toList 0 = s.size
        · have c2' : ((upTo nameC s.data.toList 0 : Int) == (s.size : Int)) = true := by rw [beq_iff_eq]; omega
          go_enter Tryz.func64, Tryz.ntmps64
          go_wp2_with (first | (go_at_call 94; refine (isLetter_any _ _).mono ?_; rintro e w' ⟨rfl, rfl⟩) | (go_at_call 95; refine (nameEnd_any _ 0 (Nat.zero_le _) _ hs).mono ?_; rintro e w' ⟨rfl, rfl⟩) | (go_at_call 96; refine (isKey_any _ _).mono ?_; rintro e w' ⟨rfl, rfl⟩))
          go_ret
          exact ⟨ret_bool (by unfold isNameB; rw [F.out, q1, (upTo_all _).1 (by rw [c2, Lib.size_eq]), ← Lib.size_eq, decide_eq_true c1]; rfl), rfl⟩
        · have c2' : ((upTo nameC s.data.toList 0 : Int) == (s.size : Int)) = false := by rw [beq_eq_false_iff_ne]; omega
          go_enter Tryz.func64, Tryz.ntmps64
          go_wp2_with (first | (go_at_call 94; refine (isLetter_any _ _).mono ?_; rintro e w' ⟨rfl, rfl⟩) | (go_at_call 95; refine (nameEnd_any _ 0 (Nat.zero_le _) _ hs).mono ?_; rintro e w' ⟨rfl, rfl⟩) | (go_at_call 96; refine (isKey_any _ _).mono ?_; rintro e w' ⟨rfl, rfl⟩))
          go_ret
          refine ⟨ret_bool ?_, rfl⟩
          have A : s.data.toList.all nameC = false := by
            rw [← Bool.not_eq_true, ← upTo_all, ← Lib.size_eq]; exact c2
          unfold isNameB; rw [A, Bool.and_false, Bool.false_and, Bool.false_and]
    · have c1' : ¬ (s.size : Int) ≤ 16 := by omega
      go_enter Tryz.func64, Tryz.ntmps64
      go_wp2_with fail
      go_ret
      exact ⟨ret_bool (by unfold isNameB; rw [← Lib.size_eq, decide_eq_false c1, Bool.and_false, Bool.false_and]), rfl⟩

end Go.Proofs.YtkljakeccfnakaaGreatDoor

namespace Go.Proofs.YtkljakeccfnakaaGreatDoor

inductive Px where
  | mk (kind : Int) (text other : List UInt8) (n pl : Int) (kids : List Px)
def Px.kind : Px → Int | .mk k _ _ _ _ _ => k
def Px.text : Px → List UInt8 | .mk _ t _ _ _ _ => t
def Px.other : Px → List UInt8 | .mk _ _ o _ _ _ => o
def Px.n : Px → Int | .mk _ _ _ n _ _ => n
def Px.pl : Px → Int | .mk _ _ _ _ p _ => p
def Px.kids : Px → List Px | .mk _ _ _ _ _ l => l
def Px.none : Px := .mk 0 [] [] 0 0 []
mutual
/-- The places struck. -/
def pr : Px → Px
  | .mk k t o n _ l => .mk k t o n 0 (prL l)
def prL : List Px → List Px
  | [] => []
  | e :: r => pr e :: prL r
end
mutual
def deepX : Px → Nat
  | .mk _ _ _ _ _ l => deepXL l + 1
def deepXL : List Px → Nat
  | [] => 0
  | e :: r => max (deepX e) (deepXL r)
end
mutual
def szX : Px → Nat
  | .mk _ _ _ _ _ l => szXL l + 1
def szXL : List Px → Nat
  | [] => 0
  | e :: r => szX e + szXL r
end
mutual
/-- An expression that was read. -/
def toX : Ex → Px
  | .mk k t o n p l => .mk k t o n p (toXL l)
def toXL : List Ex → List Px
  | [] => []
  | e :: r => toX e :: toXL r
end
theorem toXL_map : ∀ l : List Ex, toXL l = l.map toX
  | [] => rfl
  | e :: r => by simp only [toXL, List.map_cons, toXL_map r]
theorem prL_map : ∀ l : List Px, prL l = l.map pr
  | [] => rfl
  | e :: r => by simp only [prL, List.map_cons, prL_map r]

/-- How many kids a kind has. -/
def kidsN (k : Int) : Int :=
  if [1, 2, 3, 4, 10, 18].contains k then 0 else if [7, 11, 12, 14, 15, 17, 19].contains k then 1
  else if [5, 8, 9, 13, 16, 20, 21, 22, 23, 25].contains k then 2 else if [6, 24].contains k then 3 else -1
def usesB (k : Int) : Bool := [4, 5, 7, 10, 11, 12, 13, 14, 15, 16, 25].contains k
def opB (t : List UInt8) : Bool := [[43], [45], [42], [47]].contains t
def textB (k : Int) (t : List UInt8) (n : Int) : Bool :=
  if usesB k then isNameB t else if k == 21 then opB t else if k == 24 && n != 1 then isNameB t else t == []
def otherB (k : Int) (o : List UInt8) : Bool := if k == 25 then isNameB o else o == []
def numB (k n : Int) : Bool :=
  if k == 1 then decide (0 ≤ n) && decide (n ≤ 999999999) else if k == 2 then n == 0 || n == 1 else if k == 24 then decide (1 ≤ n) && decide (n ≤ 3) else n == 0
def kindAt (l : List Px) (j : Nat) : Int := (l.getD j Px.none).kind
def armsB (k n : Int) (l : List Px) : Bool := k != 24 || ((n != 2 || kindAt l 1 == 3) && (n != 1 || kindAt l 2 == 3))
def nodeB (k : Int) (t o : List UInt8) (n : Int) (l : List Px) : Bool :=
  ((l.length : Int) == kidsN k) && textB k t n && otherB k o && numB k n && armsB k n l
mutual
/-- Is it formed, however deep? -/
def wfX : Px → Bool
  | .mk k t o n _ l => nodeB k t o n l && wfXL l
def wfXL : List Px → Bool
  | [] => true
  | e :: r => wfX e && wfXL r
end
theorem wfXL_all : ∀ l : List Px, wfXL l = l.all wfX
  | [] => rfl
  | e :: r => by simp only [wfXL, List.all_cons, wfXL_all r]
/-- The same, at most d deep. -/
def formB (d : Nat) (x : Px) : Bool := wfX x && decide (deepX x ≤ d)

/-- The pieces of a text, between its kids'. -/
def pcs (k : Int) (t o : List UInt8) (n : Int) : List (List UInt8) :=
  if k = 1 then [Lib.itoa n] else if k = 2 then [if n = 1 then [116, 114, 117, 101] else [102, 97, 108, 115, 101]] else if k = 3 then [[40, 41]] else if k = 4 then [t]
  else if k = 10 then [[33] ++ t] else if k = 12 then [t ++ [46, 91], [93]] else if k = 18 then [[110, 111, 110, 101]]
  else if k = 5 then [[40, 108, 101, 116, 32] ++ t ++ [32, 61, 32], [32, 105, 110, 32], [41]]
  else if k = 6 then [[40, 105, 102, 32], [32, 116, 104, 101, 110, 32], [32, 101, 108, 115, 101, 32], [41]]
  else if k = 7 then [[40, 102, 117, 110, 32] ++ t ++ [32, 45, 62, 32], [41]]
  else if k = 8 then [[40], [32], [41]]
  else if k = 9 then [[40], [59, 32], [41]]
  else if k = 11 then [[40] ++ t ++ [32, 58, 61, 32], [41]]
  else if k = 13 then [[40] ++ t ++ [46, 91], [93, 32, 60, 45, 32], [41]]
  else if k = 14 then [[40, 115, 119, 97, 112, 32] ++ t ++ [32], [41]]
  else if k = 15 then [[40, 97, 100, 100, 32] ++ t ++ [32], [41]]
  else if k = 16 then [[40, 99, 97, 115, 32] ++ t ++ [32], [32], [41]]
  else if k = 17 then [[40, 112, 114, 105, 110, 116, 32], [41]]
  else if k = 19 then [[40, 115, 111, 109, 101, 32], [41]]
  else if k = 20 then [[40], [44, 32], [41]]
  else if k = 21 then [[40], [32] ++ t ++ [32], [41]]
  else if k = 22 then [[40], [32, 60, 32], [41]]
  else if k = 23 then [[40], [32, 61, 32], [41]]
  else if k = 25 then [[40, 109, 97, 116, 99, 104, 32], [32, 119, 105, 116, 104, 32, 40] ++ t ++ [44, 32] ++ o ++ [41, 32, 45, 62, 32], [41]]
  else if n = 1 then [[40, 109, 97, 116, 99, 104, 32], [32, 119, 105, 116, 104, 32, 110, 111, 110, 101, 32, 45, 62, 32], [41]]
  else if n = 2 then [[40, 109, 97, 116, 99, 104, 32], [32, 119, 105, 116, 104, 32, 115, 111, 109, 101, 32] ++ t ++ [32, 45, 62, 32], [41]]
  else [[40, 109, 97, 116, 99, 104, 32], [32, 119, 105, 116, 104, 32, 110, 111, 110, 101, 32, 45, 62, 32], [32, 124, 32, 115, 111, 109, 101, 32] ++ t ++ [32, 45, 62, 32], [41]]
/-- Which kids have texts. -/
def pick3 {α : Type} (k n : Int) (l : List α) : List α :=
  if k = 24 then (if n = 1 then [l[0]?, l[1]?].filterMap id else if n = 3 then l else [l[0]?, l[2]?].filterMap id) else l
/-- The first i pieces, with texts between them. -/
def wv (ps ts : List (List UInt8)) : Nat → List UInt8
  | 0 => []
  | i + 1 => wv ps ts i ++ ((if i = 0 then [] else ts.getD (i - 1) []) ++ ps.getD i [])
def weave (ps ts : List (List UInt8)) : List UInt8 := wv ps ts ps.length
mutual
/-- The text of an expression. -/
def shwX : Px → List UInt8
  | .mk k t o n _ l => weave (pcs k t o n) (pick3 k n (shwXL l))
def shwXL : List Px → List (List UInt8)
  | [] => []
  | e :: r => shwX e :: shwXL r
end
theorem shwXL_map : ∀ l : List Px, shwXL l = l.map shwX
  | [] => rfl
  | e :: r => by simp only [shwXL, List.map_cons, shwXL_map r]

/-- Declarations. -/
structure Dl where
  kind : Int
  name : List UInt8
  n : Int
  pl : Int
def declB (d : Dl) : Bool := isNameB d.name && (if d.kind == 1 || d.kind == 2 then decide (-999999999 ≤ d.n) && decide (d.n ≤ 999999999) else if d.kind == 3 then decide (1 ≤ d.n) && decide (d.n ≤ 8) else false)
def sizeD (d : Dl) : Int := if d.kind == 3 then d.n else 1
def sizesD (ds : List Dl) : Int := ds.foldl (fun a d => a + sizeD d) 0
def firstT (n : Int) : List UInt8 := if n < 0 then [45, 32] ++ Lib.itoa (-n) else Lib.itoa n
def shwD (d : Dl) : List UInt8 :=
  if d.kind = 1 then [99, 101, 108, 108, 32] ++ d.name ++ [32, 61, 32] ++ firstT d.n
  else if d.kind = 2 then [97, 116, 111, 109, 32] ++ d.name ++ [32, 61, 32] ++ firstT d.n
  else [114, 111, 119, 32] ++ d.name ++ [32] ++ Lib.itoa d.n
/-- Is a program formed? -/
def progB (ds : List Dl) (es : List Px) : Bool :=
  decide (ds.length ≤ 8) && decide (1 ≤ es.length) && decide (es.length ≤ 3) && ds.all declB && es.all (formB 60) && decide (sizesD ds ≤ 16)
def domT (x : Px) : List UInt8 := [100, 111, 109, 97, 105, 110, 32] ++ shwX x ++ [32, 101, 110, 100, 10]
def shwP (ds : List Dl) (es : List Px) : List UInt8 := (ds.map fun d => shwD d ++ [10]).flatten ++ (es.map domT).flatten

/-- The kinds, one by one. -/
theorem kinds25 {k : Int} (h1 : 1 ≤ k) (h2 : k ≤ 25) : k = 1 ∨ k = 2 ∨ k = 3 ∨ k = 4 ∨ k = 5 ∨ k = 6 ∨ k = 7 ∨ k = 8 ∨ k = 9 ∨ k = 10 ∨ k = 11 ∨ k = 12 ∨ k = 13 ∨ k = 14 ∨ k = 15 ∨ k = 16 ∨ k = 17 ∨ k = 18 ∨ k = 19 ∨ k = 20 ∨ k = 21 ∨ k = 22 ∨ k = 23 ∨ k = 24 ∨ k = 25 := by omega
theorem kidsN_out {k : Int} (h : k < 1 ∨ 25 < k) : kidsN k = -1 := by
  unfold kidsN
  simp only [List.contains_iff_mem, List.mem_cons, List.not_mem_nil, or_false]
  rw [if_neg (by omega), if_neg (by omega), if_neg (by omega), if_neg (by omega)]
theorem node_kind {k : Int} {t o : List UInt8} {n : Int} {l : List Px} (h : nodeB k t o n l = true) : 1 ≤ k ∧ k ≤ 25 := by
  unfold nodeB at h
  simp only [Bool.and_eq_true, beq_iff_eq] at h
  apply Classical.byContradiction
  intro hc
  have := kidsN_out (k := k) (by omega)
  omega
theorem deepXL_mem : ∀ (l : List Px) (j : Nat) (x : Px), l[j]? = some x → deepX x ≤ deepXL l := by
  intro l
  induction l with
  | nil => intro j x h; simp at h
  | cons a r ih =>
    intro j x h
    cases j with
    | zero => simp only [List.getElem?_cons_zero, Option.some.injEq] at h; subst h; simp only [deepXL]; omega
    | succ j => simp only [List.getElem?_cons_succ] at h; have := ih j x h; simp only [deepXL]; omega
theorem szXL_mem : ∀ (l : List Px) (j : Nat) (x : Px), l[j]? = some x → szX x ≤ szXL l := by
  intro l
  induction l with
  | nil => intro j x h; simp at h
  | cons a r ih =>
    intro j x h
    cases j with
    | zero => simp only [List.getElem?_cons_zero, Option.some.injEq] at h; subst h; simp only [szXL]; omega
    | succ j => simp only [List.getElem?_cons_succ] at h; have := ih j x h; simp only [szXL]; omega
theorem szXL_add : ∀ (l : List Px) (x : Px), szXL (l ++ [x]) = szXL l + szX x := by
  intro l x
  induction l with
  | nil => simp [szXL]
  | cons a r ih => rw [List.cons_append, szXL, ih, szXL]; omega
theorem szXL_take (l : List Px) (i : Nat) : szXL (l.take i) ≤ szXL l := by
  induction l generalizing i with
  | nil => simp [szXL]
  | cons a r ih =>
    cases i with
    | zero => simp [szXL]
    | succ i => rw [List.take_succ_cons, szXL, szXL]; have := ih i; omega
theorem deepXL_add : ∀ (l : List Px) (x : Px), deepXL (l ++ [x]) = max (deepXL l) (deepX x) := by
  intro l x
  induction l with
  | nil => simp [deepXL]
  | cons a r ih => rw [List.cons_append, deepXL, ih, deepXL]; omega
theorem takeX_add {α : Type} {l : List α} {i : Nat} {y : α} (h : l[i]? = some y) : l.take (i + 1) = l.take i ++ [y] := by rw [List.take_add_one, h]; rfl
theorem deepX_pos (x : Px) : 1 ≤ deepX x := by cases x; simp only [deepX]; omega
theorem szX_pos (x : Px) : 1 ≤ szX x := by cases x; simp only [szX]; omega
mutual
theorem deep_szX : ∀ x : Px, deepX x ≤ szX x
  | .mk _ _ _ _ _ l => by simp only [deepX, szX]; have := deep_szXL l; omega
theorem deep_szXL : ∀ l : List Px, deepXL l ≤ szXL l
  | [] => Nat.le_refl _
  | e :: r => by simp only [deepXL, szXL]; have := deep_szX e; have := deep_szXL r; omega
end
end Go.Proofs.YtkljakeccfnakaaGreatDoor
