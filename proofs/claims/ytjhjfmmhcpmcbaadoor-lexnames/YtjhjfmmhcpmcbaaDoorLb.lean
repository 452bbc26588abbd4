/-
  The walks of the program's own functions of layer 4 on words of the language, ends of lines, blanks and signs.
-/
import Derived.Test.YtjhjfmmhcpmcbaaDoorLa
import Derived.Laws.Externs
import Derived.Lib.Bytealg
import Derived.Lib.IndexBytes
namespace Go.Proofs.YtjhjfmmhcpmcbaaDoor
open Go.RowKit

set_option maxHeartbeats 4000000 in
theorem isKey_any (s : ByteArray) (w : World) :
    Calls Tryd.prog 24 #[.string s] w fun e w' => e = .returned (.bool (keyB s.data.toList)) ∧ w' = w := by
  go_enter Tryd.func24, Tryd.ntmps24
  go_wp2
  all_goals
    go_ret
    refine ⟨ret_bool ?_, rfl⟩
    rw [← Lib.toList_data]
    first
    | (simp only [keyB, keyL, List.contains_cons, List.contains_nil, *, Bool.false_or, Bool.true_or]; done)
    | (exfalso; simp_all; done)

theorem idx10 (l : List UInt8) : Lib.indexByte l 10 = if (l.takeWhile notNl).length < l.length then ((l.takeWhile notNl).length : Int) else -1 := by
  induction l with
  | nil => rfl
  | cons b l ih =>
    unfold Lib.indexByte
    by_cases hb : b = 10
    · subst hb
      rw [List.takeWhile_cons_of_neg (by decide)]
      simp
    · have h1 : (b == (10 : UInt8)) = false := by simpa using hb
      have h2 : notNl b = true := by
        unfold notNl
        rw [Bool.not_eq_true', decide_eq_false_iff_not]
        intro h; exact hb (UInt8.toNat_inj.1 h)
      rw [h1, ih, List.takeWhile_cons_of_pos h2]
      simp only [List.length_cons, Bool.false_eq_true, if_false]
      have := takeWhile_le notNl l
      by_cases h : (l.takeWhile notNl).length < l.length
      · have h3 : ((((l.takeWhile notNl).length : Int)) == -1) = false := by rw [beq_eq_false_iff_ne]; omega
        rw [if_pos h, if_pos (show (l.takeWhile notNl).length + 1 < l.length + 1 by omega), h3]
        simp
      · rw [if_neg h, if_neg (show ¬ (l.takeWhile notNl).length + 1 < l.length + 1 by omega)]; rfl

theorem call40 (s : ByteArray) (w : World) : (callFunc 40 #[.string s, .int .u8 10]).run Tryd.prog w = .ok (.value (.int .i64 (Lib.indexByte s.data.toList 10))) w := by
  rw [run_callFunc_extern Tryd.func40 (by kernel_rfl) (by kernel_rfl) (by kernel_rfl) (e := Extern.BytealgIndexByte.indexByte) (by kernel_rfl), run_indexByte_string, ← Lib.firstIdx_eq]
  rfl
set_option maxHeartbeats 400000 in
theorem sliteIndexByte_any (s : ByteArray) (w : World) :
    Calls Tryd.prog 37 #[.string s, .int .u8 10] w fun e w' => e = .returned (.int .i64 (Lib.indexByte s.data.toList 10)) ∧ w' = w := by
  have hd := call40 s
  go_enter Tryd.func37, Tryd.ntmps37
  go_wp2
  go_ret
  exact ⟨rfl, rfl⟩
set_option maxHeartbeats 400000 in
theorem indexByte_any (s : ByteArray) (w : World) :
    Calls Tryd.prog 33 #[.string s, .int .u8 10] w fun e w' => e = .returned (.int .i64 (Lib.indexByte s.data.toList 10)) ∧ w' = w := by
  go_enter Tryd.func33, Tryd.ntmps33
  go_wp2_with (go_at_call 37; refine (sliteIndexByte_any _ _).mono ?_; rintro e w' ⟨rfl, rfl⟩)
  go_ret
  exact ⟨rfl, rfl⟩

theorem line_end (s : ByteArray) (at0 : Nat) (h0 : at0 ≤ s.size) :
    (Lib.indexByte (s.extract at0 s.size).data.toList 10 < 0 ∧ s.size = upTo notNl s.data.toList at0) ∨ (0 ≤ Lib.indexByte (s.extract at0 s.size).data.toList 10 ∧ (at0 : Int) + Lib.indexByte (s.extract at0 s.size).data.toList 10 = (upTo notNl s.data.toList at0 : Nat)) := by
  rw [Lib.extract_to_end, idx10]
  have h1 := takeWhile_le notNl (s.data.toList.drop at0)
  have h2 : (s.data.toList.drop at0).length = s.size - at0 := by rw [List.length_drop, ← Lib.size_eq]
  unfold upTo
  by_cases h : ((s.data.toList.drop at0).takeWhile notNl).length < (s.data.toList.drop at0).length
  · rw [if_pos h]; right; omega
  · rw [if_neg h]; left; omega

set_option maxHeartbeats 400000 in
theorem lineEnd_any (s : ByteArray) (at0 : Nat) (h0 : at0 ≤ s.size) (w : World) (hs : s.size ≤ 140737488351232) :
    Calls Tryd.prog 29 #[.string s, .int .i64 (at0 : Int)] w fun e w' => e = .returned (.int .i64 (upTo notNl s.data.toList at0 : Nat)) ∧ w' = w := by
  have hU := upTo_len (p := notNl) (l := s.data.toList) (i := at0) (by rw [← Lib.size_eq]; exact h0)
  rw [← Lib.size_eq] at hU
  have HU : Hid (at0 ≤ upTo notNl s.data.toList at0 ∧ upTo notNl s.data.toList at0 ≤ s.size) := hU
  clear hU
  have h0' : (at0 : Int) ≤ (s.size : Int) := by omega
  rcases line_end s at0 h0 with ⟨hn, he⟩ | ⟨hn, he⟩
  · have HE : Hid (s.size = upTo notNl s.data.toList at0) := he
    clear he
    generalize hq : Lib.indexByte (s.extract at0 s.size).data.toList 10 = q at hn
    have HQ : Hid (Lib.indexByte (s.extract at0 s.size).data.toList 10 = q) := hq
    clear hq
    go_enter Tryd.func29, Tryd.ntmps29
    go_wp2_with (go_at_call 33; refine (indexByte_any _ _).mono ?_; rintro e w' ⟨rfl, rfl⟩; first | rw [HQ.out] | skip)
    go_ret
    exact ⟨ret_int (by rw [← HE.out]), rfl⟩
  · generalize hq : Lib.indexByte (s.extract at0 s.size).data.toList 10 = q at hn he
    have HQ : Hid (Lib.indexByte (s.extract at0 s.size).data.toList 10 = q) := hq
    have HE : Hid ((at0 : Int) + q = (upTo notNl s.data.toList at0 : Nat)) := he
    have hb : (at0 : Int) + q ≤ (s.size : Int) := by have := HU.out.2; omega
    have hn' : ¬ q < 0 := by omega
    clear hq he
    go_enter Tryd.func29, Tryd.ntmps29
    go_wp2_with (go_at_call 33; refine (indexByte_any _ _).mono ?_; rintro e w' ⟨rfl, rfl⟩; first | rw [HQ.out] | skip)
    go_ret
    exact ⟨ret_int (by first | exact HE.out | (rw [wrap64_of_fits]; exact HE.out) | (have := HE.out; go_num)), rfl⟩

/-- How long the longest sign at the front is. -/
def signN (l : List UInt8) : Nat := if [[58, 61], [60, 45], [45, 62], [46, 91]].contains (l.take 2) = true then 2 else if (l[0]?).any single = true then 1 else 0

theorem single_int (c : UInt8) : singleB (c.toNat : Int) = single c := by
  unfold singleB single
  simp only [← cast_eq]; rfl
theorem sign_raw (s : ByteArray) {c : UInt8} (hl : s.data.toList[0]? = some c) :
    signN s.data.toList = if [[58, 61], [60, 45], [45, 62], [46, 91]].contains (s.extract 0 2).toList = true then 2 else if singleB (c.toNat : Int) = true then 1 else 0 := by
  unfold signN
  rw [Lib.extract_toList, hl, single_int]
  rfl
theorem sign_short (s : ByteArray) {c : UInt8} (hl : s.data.toList[0]? = some c) (h1 : ¬ 1 < s.size) : signN s.data.toList = if singleB (c.toNat : Int) = true then 1 else 0 := by
  unfold signN
  rw [hl, single_int]
  have e : s.data.toList = [c] := by
    rw [Lib.size_eq] at h1
    cases h : s.data.toList with
    | nil => rw [h] at hl; simp at hl
    | cons a r =>
      rw [h] at hl h1
      simp only [List.getElem?_cons_zero, Option.some.injEq] at hl
      rw [List.length_cons] at h1
      rw [hl, List.eq_nil_of_length_eq_zero (show r.length = 0 by omega)]
  rw [e, if_neg (by simp)]
  rfl

set_option maxHeartbeats 4000000 in
theorem signLength_any (s : ByteArray) (h0 : 0 < s.size) (w : World) :
    Calls Tryd.prog 36 #[.string s] w fun e w' => e = .returned (.int .i64 (signN s.data.toList : Nat)) ∧ w' = w := by
  obtain ⟨c, hc, hl⟩ := byte_at s h0
  have HL : Hid (s.data.toList[0]? = some c) := hl
  clear hl
  by_cases c1 : 1 < s.size
  · have c1' : (1 : Int) < (s.size : Int) := by omega
    have c2' : (2 : Int) ≤ (s.size : Int) := by omega
    go_enter Tryd.func36, Tryd.ntmps36
    go_wp2
    all_goals
      go_ret
      refine ⟨ret_int ?_, rfl⟩
      rw [sign_raw s HL.out]
      first
      | (simp only [List.contains_cons, List.contains_nil, singleB, *, Bool.or_false, Bool.true_or, Bool.or_true, Bool.false_eq_true, if_true, if_false]; done)
      | (simp only [List.contains_cons, List.contains_nil, singleB, *, Bool.or_false, Bool.true_or, Bool.or_true, Bool.false_eq_true, if_true, if_false]; rfl)
      | (exfalso; simp_all; done)
  · have c1' : ¬ (1 : Int) < (s.size : Int) := by omega
    go_enter Tryd.func36, Tryd.ntmps36
    go_wp2
    all_goals
      go_ret
      refine ⟨ret_int ?_, rfl⟩
      rw [sign_short s HL.out c1]
      first
      | (simp only [singleB, *, Bool.or_false, Bool.true_or, Bool.or_true, Bool.false_eq_true, if_true, if_false]; done)
      | (simp only [singleB, *, Bool.or_false, Bool.true_or, Bool.or_true, Bool.false_eq_true, if_true, if_false]; rfl)
      | (exfalso; simp_all; done)

theorem drop_drop' (l : List UInt8) (i n : Nat) : (l.drop i).drop n = l.drop (i + n) := by rw [List.drop_drop]
/-- From i on, up to j, there are blanks and remarks alone. -/
def Skips (l : List UInt8) (i j : Nat) : Prop := ∀ k, lexA (l.drop i) i k = lexA (l.drop j) j k
theorem Skips.refl (l : List UInt8) (i : Nat) : Skips l i i := fun _ => rfl
theorem Skips.step {l : List UInt8} {i j n : Nat} (h : Skips l i j) (hs : stepL (l.drop j) = .skip n) : Skips l i (j + n) := fun k => by
  rw [h k, lexA_skip hs, drop_drop']
theorem blank_int (c : UInt8) : blank c = (((c.toNat : Int) == 32) || ((c.toNat : Int) == 9) || ((c.toNat : Int) == 10) || ((c.toNat : Int) == 13)) := by
  unfold blank
  simp only [← cast_eq]; rfl
theorem hash_int {c : UInt8} (h : ((c.toNat : Int) == 35) = true) : c.toNat = 35 := by rw [beq_iff_eq] at h; omega
theorem hash_not {c : UInt8} (h : ((c.toNat : Int) == 35) = false) : ¬ c.toNat = 35 := by rw [beq_eq_false_iff_ne] at h; omega
theorem Skips.remark {l : List UInt8} {i j : Nat} {c : UInt8} (h : Skips l i j) (hj : l[j]? = some c) (q : blank c = false) (q1 : c.toNat = 35) : Skips l i (upTo notNl l j) ∧ j < upTo notNl l j ∧ upTo notNl l j ≤ l.length := by
  have hjl : j < l.length := (List.getElem?_eq_some_iff.1 hj).1
  have e1 : upTo notNl l (j + 1) = upTo notNl l j := upTo_step hj (by unfold notNl; rw [q1]; rfl)
  have e2 := upTo_len (p := notNl) (l := l) (i := j + 1) (by omega)
  rw [e1] at e2
  have := h.step (step_remark hj q q1)
  rw [show j + (upTo notNl l j - j) = upTo notNl l j by omega] at this
  exact ⟨this, by omega, e2.2⟩
def bare (c : UInt8) : Bool := !blank c && !decide (c.toNat = 35)
/-- At j no blank stands, and no remark begins. -/
def BareAt (l : List UInt8) (j : Nat) : Prop := ∀ c, l[j]? = some c → bare c = true

set_option maxHeartbeats 4000000 in
theorem blanksEnd_any (s : ByteArray) (at0 : Nat) (h0 : at0 ≤ s.size) (w : World) (hs : s.size ≤ 140737488351232) :
    Calls Tryd.prog 25 #[.string s, .int .i64 (at0 : Int)] w fun e w' => (∃ j : Nat, e = .returned (.int .i64 (j : Int)) ∧ at0 ≤ j ∧ j ≤ s.size ∧ Skips s.data.toList at0 j ∧ BareAt s.data.toList j) ∧ w' = w := by
  go_enter Tryd.func25, Tryd.ntmps25
  go_wp2
  go_loopw [1] (fun t wr => ∃ (i : Nat), at0 ≤ i ∧ i ≤ s.size ∧ t = .int .i64 i ∧ Hid (Skips s.data.toList at0 i) ∧ wr = w) (fun t _ => s.size - (intOf t).toNat)
  case atStart => exact ⟨at0, Nat.le_refl _, h0, rfl, Skips.refl _ _, rfl⟩
  case round =>
    obtain ⟨i, hi0, hi, rfl, hn, rfl⟩ := hrel
    by_cases c : i < s.size
    · have c' : (i : Int) < (s.size : Int) := by omega
      obtain ⟨ch, hch, hl⟩ := byte_at s c
      have HL : Hid (s.data.toList[i]? = some ch) := hl
      clear hl
      go_wp2_with (go_at_call 29; refine (lineEnd_any _ _ (by assumption) _ (by assumption)).mono ?_; rintro e w' ⟨rfl, rfl⟩)
      all_goals first
        | (have hb : blank ch = true := by rw [blank_int]; simp only [*, Bool.or_false, Bool.true_or, Bool.or_true]
           exact ⟨⟨i + 1, by omega, by omega, by go_num, hn.out.step (step_blank HL.out hb), trivial⟩, by simp [intOf]; omega⟩)
        | (have hb : blank ch = false := by rw [blank_int]; simp only [*, Bool.or_false]
           have h35 := hash_int (c := ch) (by assumption)
           have hr := hn.out.remark HL.out hb h35
           rw [← Lib.size_eq] at hr
           exact ⟨⟨_, by omega, hr.2.2, rfl, hr.1, trivial⟩, by simp [intOf]; omega⟩)
        | (have hb : blank ch = false := by rw [blank_int]; simp only [*, Bool.or_false]
           have h35 := hash_not (c := ch) (by assumption)
           go_ret
           exact ⟨⟨i, rfl, hi0, hi, hn.out, fun d hd => by
             rw [HL.out] at hd
             obtain rfl := Option.some.inj hd
             unfold bare; rw [hb]; simp [h35]⟩, rfl⟩)
        | (exfalso; simp_all; done)
    · have c' : ¬ (i : Int) < (s.size : Int) := by omega
      go_wp2_with fail
      go_ret
      exact ⟨⟨i, rfl, hi0, hi, hn.out, fun d hd => by have := (List.getElem?_eq_some_iff.1 hd).1; rw [← Lib.size_eq] at this; omega⟩, rfl⟩
end Go.Proofs.YtjhjfmmhcpmcbaaDoor
