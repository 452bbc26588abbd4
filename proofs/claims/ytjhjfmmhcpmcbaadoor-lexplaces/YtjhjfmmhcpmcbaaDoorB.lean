/-
  Names, and the walk of the document's own answer for them.
-/
import Derived.Test.YtjhjfmmhcpmcbaaDoorA
namespace Go.Proofs.YtjhjfmmhcpmcbaaDoor
open Go.RowKit

/-- Is it a name? -/
def firstB (l : List UInt8) : Bool := (l[0]?).any small
def isNameB (l : List UInt8) : Bool := firstB l && l.all nameC && decide (l.length ≤ 16) && !keyB l
theorem byte_at (s : ByteArray) {i : Nat} (h : i < s.size) : ∃ c, s[i] = c ∧ s.data.toList[i]? = some c := by
  refine ⟨s[i], rfl, ?_⟩
  have h' : i < s.data.toList.length := by rw [← Lib.size_eq]; exact h
  rw [List.getElem?_eq_getElem h']
  congr 1
/-- Up to i all is as in a name. -/
def NameTo (l : List UInt8) (i : Nat) : Prop := ∀ j c, j < i → l[j]? = some c → small c = true ∨ (j ≠ 0 ∧ digit c = true)
theorem NameTo.all {l : List UInt8} (h : NameTo l l.length) : l.all nameC = true ∧ (l ≠ [] → firstB l = true) := by
  refine ⟨List.all_eq_true.2 fun c hc => ?_, fun hne => ?_⟩
  · obtain ⟨j, hj, e⟩ := List.getElem_of_mem hc
    have := h j c hj (by rw [List.getElem?_eq_getElem hj, e])
    unfold nameC
    rcases this with h | ⟨_, h⟩ <;> simp [h]
  · cases l with
    | nil => exact absurd rfl hne
    | cons c r =>
      have := h 0 c (by simp) rfl
      rcases this with h | ⟨h, _⟩
      · unfold firstB; simp [h]
      · omega
theorem NameTo.not {l : List UInt8} {i : Nat} {c : UInt8} (hi : l[i]? = some c) (h1 : small c = false) (h2 : i = 0 ∨ digit c = false) : isNameB l = false := by
  unfold isNameB
  rcases h2 with rfl | h2
  · have : firstB l = false := by unfold firstB; rw [hi]; simp [h1]
    rw [this]; rfl
  · have : l.all nameC = false := by
      rw [List.all_eq_false]
      exact ⟨c, List.mem_of_getElem? hi, by unfold nameC; simp [h1, h2]⟩
    rw [this]; simp
theorem name_not32 {c : UInt8} (h : nameC c = true) : not32 c = true := by
  unfold nameC small digit at h
  unfold not32
  simp only [Bool.or_eq_true, Bool.and_eq_true, decide_eq_true_iff] at h
  rw [Bool.not_eq_true', decide_eq_false_iff_not]
  omega

set_option maxHeartbeats 2000000 in
theorem refIsName_any (s : ByteArray) (w : World) (hs : s.size ≤ 140737488351232) :
    Calls Tryd.prog 13 #[.string s] w fun e w' => e = .returned (.bool (isNameB s.data.toList)) ∧ w' = w := by
  go_enter Tryd.func13, Tryd.ntmps13
  go_wp2
  go_loopw [3] (fun t wr => ∃ (i : Nat), i ≤ s.size ∧ t = .int .i64 i ∧ Hid (NameTo s.data.toList i) ∧ wr = w) (fun t _ => s.size - (intOf t).toNat)
  case atStart => exact ⟨0, Nat.zero_le _, rfl, fun j c hj => by omega, rfl⟩
  case round =>
    obtain ⟨i, hi, rfl, hn, rfl⟩ := hrel
    by_cases c : i < s.size
    · have c' : (i : Int) < (s.size : Int) := by omega
      obtain ⟨ch, hch, hl⟩ := byte_at s c
      have HL : Hid (s.data.toList[i]? = some ch) := hl
      clear hl
      cases q1 : small ch
      · by_cases z : i = 0
        · have z' : ((i : Int) == 0) = true := by rw [beq_iff_eq]; omega
          have N : Hid (isNameB s.data.toList = false) := NameTo.not HL.out q1 (Or.inl z)
          clear z
          go_wp2_with (first | (go_at_call 17; refine (refSmall_any _ _).mono ?_; rintro e w' ⟨rfl, rfl⟩) | (go_at_call 18; refine (refDigit_any _ _).mono ?_; rintro e w' ⟨rfl, rfl⟩))
          go_ret
          exact ⟨ret_bool N.out.symm, rfl⟩
        · have z' : ((i : Int) == 0) = false := by rw [beq_eq_false_iff_ne]; omega
          cases q2 : digit ch
          · have N : Hid (isNameB s.data.toList = false) := NameTo.not HL.out q1 (Or.inr q2)
            go_wp2_with (first | (go_at_call 17; refine (refSmall_any _ _).mono ?_; rintro e w' ⟨rfl, rfl⟩) | (go_at_call 18; refine (refDigit_any _ _).mono ?_; rintro e w' ⟨rfl, rfl⟩))
            go_ret
            exact ⟨ret_bool N.out.symm, rfl⟩
          · go_wp2_with (first | (go_at_call 17; refine (refSmall_any _ _).mono ?_; rintro e w' ⟨rfl, rfl⟩) | (go_at_call 18; refine (refDigit_any _ _).mono ?_; rintro e w' ⟨rfl, rfl⟩))
            go_roundw
            case rel =>
              exact ⟨i + 1, by omega, by go_num, fun j d hj hd => by
                by_cases e : j = i
                · subst e
                  rw [HL.out] at hd
                  obtain rfl := Option.some.inj hd
                  exact Or.inr ⟨z, q2⟩
                · exact hn.out j d (by omega) hd, by first | rfl | trivial⟩
            case measure => simp [intOf]; omega
      · go_wp2_with (first | (go_at_call 17; refine (refSmall_any _ _).mono ?_; rintro e w' ⟨rfl, rfl⟩) | (go_at_call 18; refine (refDigit_any _ _).mono ?_; rintro e w' ⟨rfl, rfl⟩))
        go_roundw
        case rel =>
          exact ⟨i + 1, by omega, by go_num, fun j d hj hd => by
            by_cases e : j = i
            · subst e
              rw [HL.out] at hd
              obtain rfl := Option.some.inj hd
              exact Or.inl q1
            · exact hn.out j d (by omega) hd, by first | rfl | trivial⟩
        case measure => simp [intOf]; omega
    · have ei : i = s.size := by omega
      have A : Hid (s.data.toList.all nameC = true ∧ (s.data.toList ≠ [] → firstB s.data.toList = true)) := by
        have := hn.out
        rw [ei, Lib.size_eq] at this
        exact this.all
      have K : Hid (∀ c ∈ s.data.toList, not32 c = true) := fun c hc => name_not32 (List.all_eq_true.1 A.out.1 c hc)
      clear ei
      by_cases c1 : 1 ≤ s.size
      · have c1' : (1 : Int) ≤ (s.size : Int) := by omega
        have F : Hid (firstB s.data.toList = true) := A.out.2 (fun e => by rw [Lib.size_eq, e] at c1; simp at c1)
        by_cases c2 : s.size ≤ 16
        · have c2' : (s.size : Int) ≤ 16 := by omega
          go_wp2_with (go_at_call 19; refine (refKey_any _ _ (by assumption) K.out).mono ?_; rintro e w' ⟨rfl, rfl⟩)
          go_ret
          refine ⟨ret_bool ?_, rfl⟩
          unfold isNameB
          rw [F.out, A.out.1, ← Lib.size_eq, decide_eq_true c2]
          simp
        · have c2' : ¬ ((s.size : Int) ≤ 16) := by omega
          go_wp2_with fail
          go_ret
          refine ⟨ret_bool ?_, rfl⟩
          unfold isNameB
          rw [← Lib.size_eq, decide_eq_false c2]
          simp
      · have c1' : ¬ ((1 : Int) ≤ (s.size : Int)) := by omega
        go_wp2_with fail
        go_ret
        refine ⟨ret_bool ?_, rfl⟩
        have e : s.data.toList = [] := List.eq_nil_of_length_eq_zero (by rw [← Lib.size_eq]; omega)
        rw [e]; rfl
end Go.Proofs.YtjhjfmmhcpmcbaaDoor
