/-
  The program's reader of a word answers as the step at that place says.
-/
import Derived.Test.YtjhjfmmhcpmcbaaDoorLf
namespace Go.Proofs.YtjhjfmmhcpmcbaaDoor
open Go.RowKit

/-- What a reader of one word answers at i, by the step there. -/
def WordEnd (l : List UInt8) (i : Nat) (e : Ending) : Step → Prop
  | .tok k v n => e = .returned (tokV ⟨k, (l.drop i).take n, v, i⟩)
  | .bad => e = gaveUp 10 i
  | .skip _ => False

theorem beq_byte (a : UInt8) (n : Nat) (h : n < 256) : (a == (UInt8.ofNat n)) = decide (a.toNat = n) := by
  rw [Bool.eq_iff_iff, beq_iff_eq, decide_eq_true_iff, ← UInt8.toNat_inj, UInt8.toNat_ofNat', Nat.mod_eq_of_lt h]
theorem double_list (c d : UInt8) : [[58, 61], [60, 45], [45, 62], [46, 91]].contains [c, d] = double c d := by
  have e := fun a n (h : n < 256) => beq_byte a n h
  have e1 : ∀ a : UInt8, (a == 58) = decide (a.toNat = 58) := fun a => e a 58 (by decide)
  have e2 : ∀ a : UInt8, (a == 61) = decide (a.toNat = 61) := fun a => e a 61 (by decide)
  have e3 : ∀ a : UInt8, (a == 60) = decide (a.toNat = 60) := fun a => e a 60 (by decide)
  have e4 : ∀ a : UInt8, (a == 45) = decide (a.toNat = 45) := fun a => e a 45 (by decide)
  have e5 : ∀ a : UInt8, (a == 62) = decide (a.toNat = 62) := fun a => e a 62 (by decide)
  have e6 : ∀ a : UInt8, (a == 46) = decide (a.toNat = 46) := fun a => e a 46 (by decide)
  have e7 : ∀ a : UInt8, (a == 91) = decide (a.toNat = 91) := fun a => e a 91 (by decide)
  have nn : (([] : List UInt8) == []) = true := rfl
  simp only [List.contains_cons, List.contains_nil, List.cons_beq_cons, nn, Bool.and_true, Bool.or_false, e1, e2, e3, e4, e5, e6, e7, double]
  simp only [Bool.or_assoc]
theorem sign_step {l : List UInt8} {i : Nat} {c : UInt8} (h : l[i]? = some c) (q : blank c = false) (q1 : ¬ c.toNat = 35) (q2 : small c = false) (q3 : digit c = false) :
    stepL (l.drop i) = if signN (l.drop i) = 0 then .bad else .tok 4 0 (signN (l.drop i)) := by
  have hd := drop_at h
  have hs : (l.drop i)[0]? = some c := by rw [hd]; rfl
  cases h2 : l[i + 1]? with
  | none =>
    have hr : l.drop (i + 1) = [] := List.drop_eq_nil_of_le (List.getElem?_eq_none_iff.1 h2)
    rw [step_one h q q1 q2 q3 (by rw [h2]; rfl)]
    have e : signN (l.drop i) = if single c = true then 1 else 0 := by
      rw [hd, hr]; unfold signN; rw [if_neg (by simp)]; rfl
    rw [e]
    by_cases h1 : single c = true
    · rw [if_pos h1, if_pos h1]; rfl
    · rw [if_neg h1, if_neg h1]; rfl
  | some d =>
    have hr := drop_at h2
    have e : signN (l.drop i) = if double c d = true then 2 else if single c = true then 1 else 0 := by
      rw [hd, hr]; unfold signN
      rw [show List.take 2 (c :: d :: l.drop (i + 1 + 1)) = [c, d] from rfl, double_list]
      rfl
    rw [e]
    by_cases h0 : double c d = true
    · rw [step_two h q q1 q2 q3 h2 h0, if_pos h0]; rfl
    · rw [step_one h q q1 q2 q3 (by rw [h2]; simpa using h0), if_neg h0]
      by_cases h1 : single c = true
      · rw [if_pos h1, if_pos h1]; rfl
      · rw [if_neg h1, if_neg h1]; rfl

theorem name_any (s : ByteArray) (i : Nat) (c : UInt8) (hc : s.data.toList[i]? = some c) (q : blank c = false) (q1 : ¬ c.toNat = 35) (q2 : small c = true) (hs : s.size ≤ 140737488351232) (w : World) :
    Calls Tryd.prog 30 #[.string s, .int .i64 (i : Int)] w fun e w' => WordEnd s.data.toList i e (stepL (s.data.toList.drop i)) ∧ Below w.heap.size w w' := by
  have hi : i < s.size := by have := (List.getElem?_eq_some_iff.1 hc).1; rw [← Lib.size_eq] at this; exact this
  rw [step_name hc q q1 q2]
  by_cases h : 16 < upTo nameC s.data.toList i - i
  · rw [if_pos h]; exact name_bad s i hi w hs h
  · rw [if_neg h]; exact name_ok s i hi w hs h
theorem number_any (s : ByteArray) (i : Nat) (c : UInt8) (hc : s.data.toList[i]? = some c) (q : blank c = false) (q1 : ¬ c.toNat = 35) (q2 : small c = false) (q3 : digit c = true) (hs : s.size ≤ 140737488351232) (w : World) :
    Calls Tryd.prog 31 #[.string s, .int .i64 (i : Int)] w fun e w' => WordEnd s.data.toList i e (stepL (s.data.toList.drop i)) ∧ Below w.heap.size w w' := by
  rw [step_num hc q q1 q2 q3]
  by_cases h9 : 9 < upTo digit s.data.toList i - i
  · rw [if_pos (Or.inl h9)]; exact number_long s i c hc q3 w hs h9
  · by_cases h48 : c.toNat = 48 ∧ 1 < upTo digit s.data.toList i - i
    · rw [if_pos (Or.inr (Or.inl h48))]; exact number_zero s i c hc q3 w hs h9 h48.1 h48.2
    · by_cases hl : (s.data.toList[upTo digit s.data.toList i]?).any small = true
      · rw [if_pos (Or.inr (Or.inr hl))]; exact number_letter s i c hc q3 w hs h9 h48 hl
      · rw [if_neg (fun h => by rcases h with h | h | h; exact h9 h; exact h48 h; exact hl h)]
        have e : numTo s.data.toList i (upTo digit s.data.toList i) = numV ((s.data.toList.drop i).take (upTo digit s.data.toList i - i)) := by
          unfold numTo; rw [show min (upTo digit s.data.toList i - i) 9 = upTo digit s.data.toList i - i by omega]
        rw [e]
        cases hb : s.data.toList[upTo digit s.data.toList i]? with
        | none => exact number_end s i c hc q3 w hs h9 h48 (by rw [Lib.size_eq]; exact List.getElem?_eq_none_iff.1 hb)
        | some b => exact number_other s i c hc q3 w hs h9 h48 b hb (by rw [hb] at hl; simpa using hl)
theorem sign_any (s : ByteArray) (i : Nat) (c : UInt8) (hc : s.data.toList[i]? = some c) (q : blank c = false) (q1 : ¬ c.toNat = 35) (q2 : small c = false) (q3 : digit c = false) (hs : s.size ≤ 140737488351232) (w : World) :
    Calls Tryd.prog 32 #[.string s, .int .i64 (i : Int)] w fun e w' => WordEnd s.data.toList i e (stepL (s.data.toList.drop i)) ∧ Below w.heap.size w w' := by
  have hi : i < s.size := by have := (List.getElem?_eq_some_iff.1 hc).1; rw [← Lib.size_eq] at this; exact this
  rw [sign_step hc q q1 q2 q3]
  by_cases h : signN (s.data.toList.drop i) = 0
  · rw [if_pos h]; exact sign_bad s i hi w h
  · rw [if_neg h]; exact sign_ok s i _ hi w hs rfl (by omega)

set_option maxHeartbeats 4000000 in
theorem word_name_bad (s : ByteArray) (i : Nat) (c : UInt8) (hx : s.data.toList[i]? = some c) (q2 : small c = true) (w : World)
    (hn : ∀ w : World, Calls Tryd.prog 30 #[.string s, .int .i64 (i : Int)] w fun e w' => e = .panicked [{ v := faultV 10 i, recovered := false }] ∧ Below w.heap.size w w') :
    Calls Tryd.prog 26 #[.string s, .int .i64 (i : Int)] w fun e w' => e = .panicked [{ v := faultV 10 i, recovered := false }] ∧ Below w.heap.size w w' := by
  have hi : i < s.size := by have := (List.getElem?_eq_some_iff.1 hx).1; rw [← Lib.size_eq] at this; exact this
  have hi' : (i : Int) < (s.size : Int) := by omega
  have hxx : s[i] = c := by
    obtain ⟨b', h1, h2⟩ := byte_at s hi
    rw [h1]; rw [hx] at h2; exact (Option.some.inj h2).symm
  have HN : Hid (∀ w : World, Calls Tryd.prog 30 #[.string s, .int .i64 (i : Int)] w fun e w' => e = .panicked [{ v := faultV 10 i, recovered := false }] ∧ Below w.heap.size w w') := hn
  clear hx hn
  go_enter Tryd.func26, Tryd.ntmps26
  go_wp2_with (first | (go_at_call 22; refine (isLetter_any _ _).mono ?_; rintro e w' ⟨rfl, rfl⟩) | (go_at_call 28; refine (isDigit_any _ _).mono ?_; rintro e w' ⟨rfl, rfl⟩) | (go_at_call 30; refine (HN.out _).mono ?_; rintro e w1 ⟨rfl, hb⟩; obtain ⟨hc, hf⟩ := bcell hb; have hzz := hb.size; try simp at hzz; have hz0 : w.heap.size < w1.heap.size := (by omega)))
  exact ⟨rfl, rfl, bl2 (ba (Below.refl _ _)) hb⟩
set_option maxHeartbeats 4000000 in
theorem word_name_tok (s : ByteArray) (i : Nat) (c : UInt8) (hx : s.data.toList[i]? = some c) (q2 : small c = true) (w : World) (k v p : Nat) (y : ByteArray)
    (hn : ∀ w : World, Calls Tryd.prog 30 #[.string s, .int .i64 (i : Int)] w fun e w' => e = .returned (.agg #[.int .i64 (k : Int), .string y, .int .i64 (v : Int), .int .i64 (p : Int)]) ∧ Below w.heap.size w w') :
    Calls Tryd.prog 26 #[.string s, .int .i64 (i : Int)] w fun e w' => e = .returned (.agg #[.int .i64 (k : Int), .string y, .int .i64 (v : Int), .int .i64 (p : Int)]) ∧ Below w.heap.size w w' := by
  have hi : i < s.size := by have := (List.getElem?_eq_some_iff.1 hx).1; rw [← Lib.size_eq] at this; exact this
  have hi' : (i : Int) < (s.size : Int) := by omega
  have hxx : s[i] = c := by
    obtain ⟨b', h1, h2⟩ := byte_at s hi
    rw [h1]; rw [hx] at h2; exact (Option.some.inj h2).symm
  have HN : Hid (∀ w : World, Calls Tryd.prog 30 #[.string s, .int .i64 (i : Int)] w fun e w' => e = .returned (.agg #[.int .i64 (k : Int), .string y, .int .i64 (v : Int), .int .i64 (p : Int)]) ∧ Below w.heap.size w w') := hn
  clear hx hn
  go_enter Tryd.func26, Tryd.ntmps26
  go_wp2_with (first | (go_at_call 22; refine (isLetter_any _ _).mono ?_; rintro e w' ⟨rfl, rfl⟩) | (go_at_call 28; refine (isDigit_any _ _).mono ?_; rintro e w' ⟨rfl, rfl⟩) | (go_at_call 30; refine (HN.out _).mono ?_; rintro e w1 ⟨rfl, hb⟩; obtain ⟨hc, hf⟩ := bcell hb; have hzz := hb.size; try simp at hzz; have hz0 : w.heap.size < w1.heap.size := (by omega)))
  refine bodyPost_ret (v := .agg #[.int .i64 (k : Int), .string y, .int .i64 (v : Int), .int .i64 (p : Int)]) (by simp [results, Tryd.results26, go_sem, hc]) rfl ⟨rfl, ?_⟩
  exact bs (bs (bs (bs (bl2 (ba (Below.refl _ _)) hb) (by simp)) (by simp)) (by simp)) (by simp)
set_option maxHeartbeats 4000000 in
theorem word_number_bad (s : ByteArray) (i : Nat) (c : UInt8) (hx : s.data.toList[i]? = some c) (q2 : small c = false) (q3 : digit c = true) (w : World)
    (hn : ∀ w : World, Calls Tryd.prog 31 #[.string s, .int .i64 (i : Int)] w fun e w' => e = .panicked [{ v := faultV 10 i, recovered := false }] ∧ Below w.heap.size w w') :
    Calls Tryd.prog 26 #[.string s, .int .i64 (i : Int)] w fun e w' => e = .panicked [{ v := faultV 10 i, recovered := false }] ∧ Below w.heap.size w w' := by
  have hi : i < s.size := by have := (List.getElem?_eq_some_iff.1 hx).1; rw [← Lib.size_eq] at this; exact this
  have hi' : (i : Int) < (s.size : Int) := by omega
  have hxx : s[i] = c := by
    obtain ⟨b', h1, h2⟩ := byte_at s hi
    rw [h1]; rw [hx] at h2; exact (Option.some.inj h2).symm
  have HN : Hid (∀ w : World, Calls Tryd.prog 31 #[.string s, .int .i64 (i : Int)] w fun e w' => e = .panicked [{ v := faultV 10 i, recovered := false }] ∧ Below w.heap.size w w') := hn
  clear hx hn
  go_enter Tryd.func26, Tryd.ntmps26
  go_wp2_with (first | (go_at_call 22; refine (isLetter_any _ _).mono ?_; rintro e w' ⟨rfl, rfl⟩) | (go_at_call 28; refine (isDigit_any _ _).mono ?_; rintro e w' ⟨rfl, rfl⟩) | (go_at_call 31; refine (HN.out _).mono ?_; rintro e w1 ⟨rfl, hb⟩; obtain ⟨hc, hf⟩ := bcell hb; have hzz := hb.size; try simp at hzz; have hz0 : w.heap.size < w1.heap.size := (by omega)))
  exact ⟨rfl, rfl, bl2 (ba (Below.refl _ _)) hb⟩
set_option maxHeartbeats 4000000 in
theorem word_number_tok (s : ByteArray) (i : Nat) (c : UInt8) (hx : s.data.toList[i]? = some c) (q2 : small c = false) (q3 : digit c = true) (w : World) (k v p : Nat) (y : ByteArray)
    (hn : ∀ w : World, Calls Tryd.prog 31 #[.string s, .int .i64 (i : Int)] w fun e w' => e = .returned (.agg #[.int .i64 (k : Int), .string y, .int .i64 (v : Int), .int .i64 (p : Int)]) ∧ Below w.heap.size w w') :
    Calls Tryd.prog 26 #[.string s, .int .i64 (i : Int)] w fun e w' => e = .returned (.agg #[.int .i64 (k : Int), .string y, .int .i64 (v : Int), .int .i64 (p : Int)]) ∧ Below w.heap.size w w' := by
  have hi : i < s.size := by have := (List.getElem?_eq_some_iff.1 hx).1; rw [← Lib.size_eq] at this; exact this
  have hi' : (i : Int) < (s.size : Int) := by omega
  have hxx : s[i] = c := by
    obtain ⟨b', h1, h2⟩ := byte_at s hi
    rw [h1]; rw [hx] at h2; exact (Option.some.inj h2).symm
  have HN : Hid (∀ w : World, Calls Tryd.prog 31 #[.string s, .int .i64 (i : Int)] w fun e w' => e = .returned (.agg #[.int .i64 (k : Int), .string y, .int .i64 (v : Int), .int .i64 (p : Int)]) ∧ Below w.heap.size w w') := hn
  clear hx hn
  go_enter Tryd.func26, Tryd.ntmps26
  go_wp2_with (first | (go_at_call 22; refine (isLetter_any _ _).mono ?_; rintro e w' ⟨rfl, rfl⟩) | (go_at_call 28; refine (isDigit_any _ _).mono ?_; rintro e w' ⟨rfl, rfl⟩) | (go_at_call 31; refine (HN.out _).mono ?_; rintro e w1 ⟨rfl, hb⟩; obtain ⟨hc, hf⟩ := bcell hb; have hzz := hb.size; try simp at hzz; have hz0 : w.heap.size < w1.heap.size := (by omega)))
  refine bodyPost_ret (v := .agg #[.int .i64 (k : Int), .string y, .int .i64 (v : Int), .int .i64 (p : Int)]) (by simp [results, Tryd.results26, go_sem, hc]) rfl ⟨rfl, ?_⟩
  exact bs (bs (bs (bs (bl2 (ba (Below.refl _ _)) hb) (by simp)) (by simp)) (by simp)) (by simp)
set_option maxHeartbeats 4000000 in
theorem word_sign_bad (s : ByteArray) (i : Nat) (c : UInt8) (hx : s.data.toList[i]? = some c) (q2 : small c = false) (q3 : digit c = false) (w : World)
    (hn : ∀ w : World, Calls Tryd.prog 32 #[.string s, .int .i64 (i : Int)] w fun e w' => e = .panicked [{ v := faultV 10 i, recovered := false }] ∧ Below w.heap.size w w') :
    Calls Tryd.prog 26 #[.string s, .int .i64 (i : Int)] w fun e w' => e = .panicked [{ v := faultV 10 i, recovered := false }] ∧ Below w.heap.size w w' := by
  have hi : i < s.size := by have := (List.getElem?_eq_some_iff.1 hx).1; rw [← Lib.size_eq] at this; exact this
  have hi' : (i : Int) < (s.size : Int) := by omega
  have hxx : s[i] = c := by
    obtain ⟨b', h1, h2⟩ := byte_at s hi
    rw [h1]; rw [hx] at h2; exact (Option.some.inj h2).symm
  have HN : Hid (∀ w : World, Calls Tryd.prog 32 #[.string s, .int .i64 (i : Int)] w fun e w' => e = .panicked [{ v := faultV 10 i, recovered := false }] ∧ Below w.heap.size w w') := hn
  clear hx hn
  go_enter Tryd.func26, Tryd.ntmps26
  go_wp2_with (first | (go_at_call 22; refine (isLetter_any _ _).mono ?_; rintro e w' ⟨rfl, rfl⟩) | (go_at_call 28; refine (isDigit_any _ _).mono ?_; rintro e w' ⟨rfl, rfl⟩) | (go_at_call 32; refine (HN.out _).mono ?_; rintro e w1 ⟨rfl, hb⟩; obtain ⟨hc, hf⟩ := bcell hb; have hzz := hb.size; try simp at hzz; have hz0 : w.heap.size < w1.heap.size := (by omega)))
  exact ⟨rfl, rfl, bl2 (ba (Below.refl _ _)) hb⟩
set_option maxHeartbeats 4000000 in
theorem word_sign_tok (s : ByteArray) (i : Nat) (c : UInt8) (hx : s.data.toList[i]? = some c) (q2 : small c = false) (q3 : digit c = false) (w : World) (k v p : Nat) (y : ByteArray)
    (hn : ∀ w : World, Calls Tryd.prog 32 #[.string s, .int .i64 (i : Int)] w fun e w' => e = .returned (.agg #[.int .i64 (k : Int), .string y, .int .i64 (v : Int), .int .i64 (p : Int)]) ∧ Below w.heap.size w w') :
    Calls Tryd.prog 26 #[.string s, .int .i64 (i : Int)] w fun e w' => e = .returned (.agg #[.int .i64 (k : Int), .string y, .int .i64 (v : Int), .int .i64 (p : Int)]) ∧ Below w.heap.size w w' := by
  have hi : i < s.size := by have := (List.getElem?_eq_some_iff.1 hx).1; rw [← Lib.size_eq] at this; exact this
  have hi' : (i : Int) < (s.size : Int) := by omega
  have hxx : s[i] = c := by
    obtain ⟨b', h1, h2⟩ := byte_at s hi
    rw [h1]; rw [hx] at h2; exact (Option.some.inj h2).symm
  have HN : Hid (∀ w : World, Calls Tryd.prog 32 #[.string s, .int .i64 (i : Int)] w fun e w' => e = .returned (.agg #[.int .i64 (k : Int), .string y, .int .i64 (v : Int), .int .i64 (p : Int)]) ∧ Below w.heap.size w w') := hn
  clear hx hn
  go_enter Tryd.func26, Tryd.ntmps26
  go_wp2_with (first | (go_at_call 22; refine (isLetter_any _ _).mono ?_; rintro e w' ⟨rfl, rfl⟩) | (go_at_call 28; refine (isDigit_any _ _).mono ?_; rintro e w' ⟨rfl, rfl⟩) | (go_at_call 32; refine (HN.out _).mono ?_; rintro e w1 ⟨rfl, hb⟩; obtain ⟨hc, hf⟩ := bcell hb; have hzz := hb.size; try simp at hzz; have hz0 : w.heap.size < w1.heap.size := (by omega)))
  refine bodyPost_ret (v := .agg #[.int .i64 (k : Int), .string y, .int .i64 (v : Int), .int .i64 (p : Int)]) (by simp [results, Tryd.results26, go_sem, hc]) rfl ⟨rfl, ?_⟩
  exact bs (bs (bs (bs (bl2 (ba (Below.refl _ _)) hb) (by simp)) (by simp)) (by simp)) (by simp)

theorem bare_iff {c : UInt8} (h : bare c = true) : blank c = false ∧ ¬ c.toNat = 35 := by
  unfold bare at h
  simpa using h
theorem word_any (s : ByteArray) (i : Nat) (c : UInt8) (hx : s.data.toList[i]? = some c) (hb : bare c = true) (hs : s.size ≤ 140737488351232) (w : World) :
    Calls Tryd.prog 26 #[.string s, .int .i64 (i : Int)] w fun e w' => WordEnd s.data.toList i e (stepL (s.data.toList.drop i)) ∧ Below w.heap.size w w' := by
  obtain ⟨q, q1⟩ := bare_iff hb
  cases q2 : small c
  · cases q3 : digit c
    · have h := sign_any s i c hx q q1 q2 q3 hs
      cases e : stepL (s.data.toList.drop i) with
      | skip n => exfalso; rw [sign_step hx q q1 q2 q3] at e; split at e <;> cases e
      | bad => rw [e] at h; exact word_sign_bad s i c hx q2 q3 w h
      | tok k v n => rw [e] at h; exact word_sign_tok s i c hx q2 q3 w k v i _ h
    · have h := number_any s i c hx q q1 q2 q3 hs
      cases e : stepL (s.data.toList.drop i) with
      | skip n => exfalso; rw [step_num hx q q1 q2 q3] at e; split at e <;> cases e
      | bad => rw [e] at h; exact word_number_bad s i c hx q2 q3 w h
      | tok k v n => rw [e] at h; exact word_number_tok s i c hx q2 q3 w k v i _ h
  · have h := name_any s i c hx q q1 q2 hs
    cases e : stepL (s.data.toList.drop i) with
    | skip n => exfalso; rw [step_name hx q q1 q2] at e; split at e <;> cases e
    | bad => rw [e] at h; exact word_name_bad s i c hx q2 w h
    | tok k v n => rw [e] at h; exact word_name_tok s i c hx q2 w k v i _ h
end Go.Proofs.YtjhjfmmhcpmcbaaDoor
