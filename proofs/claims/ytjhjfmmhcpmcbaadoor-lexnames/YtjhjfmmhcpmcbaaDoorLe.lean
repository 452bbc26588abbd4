/-
  The walks of the program's readers of one word: a name, a number, a sign.
-/
import Derived.Test.YtjhjfmmhcpmcbaaDoorLc
namespace Go.Proofs.YtjhjfmmhcpmcbaaDoor
open Go.RowKit

/-- A word as a value. -/
def tokV (t : Tok) : Value := .agg #[.int .i64 t.kind, .string ⟨t.text.toArray⟩, .int .i64 t.val, .int .i64 t.pos]
/-- What a reader gives up with. -/
def faultV (c p : Nat) : Value := .iface 37 (.agg #[.int .i64 c, .int .i64 p])
def gaveUp (c p : Nat) : Ending := .panicked [{ v := faultV c p, recovered := false }]

/-- A piece of a text. -/
theorem piece (s : ByteArray) {i j : Nat} (h1 : i ≤ j) (h2 : j ≤ s.size) : ∃ x : ByteArray, x.size = j - i ∧ x.data.toList = (s.data.toList.drop i).take (j - i) ∧ x = ⟨((s.data.toList.drop i).take (j - i)).toArray⟩ ∧
    ∀ W, (Instr.slice 9 (.string s) (some (.int .i64 (i : Int))) (some (.int .i64 (j : Int))) none).run Tryd.prog W = .ok (.string x) W := by
  refine ⟨s.extract i j, ?_, Lib.extract_data .., ?_, fun W => ?_⟩
  · rw [Lib.size_eq, Lib.extract_data, List.length_take, List.length_drop, ← Lib.size_eq]; omega
  · apply ByteArray.ext
    show _ = ((s.data.toList.drop i).take (j - i)).toArray
    rw [← Lib.extract_data]
  · rw [run_slice_string_if W 9 s .i64 .i64 _ _ Tryd.underlying9, if_pos ⟨by omega, by omega⟩, if_pos ⟨by omega, by omega⟩]
    simp

set_option maxHeartbeats 4000000 in
theorem name_bad (s : ByteArray) (i : Nat) (hi : i < s.size) (w : World) (hs : s.size ≤ 140737488351232) (hc : 16 < upTo nameC s.data.toList i - i) :
    Calls Tryd.prog 30 #[.string s, .int .i64 (i : Int)] w fun e w' => e = gaveUp 10 i ∧ Below w.heap.size w w' := by
  have hU := upTo_len (p := nameC) (l := s.data.toList) (i := i) (by rw [← Lib.size_eq]; omega)
  rw [← Lib.size_eq] at hU
  obtain ⟨j, hj⟩ : ∃ j, upTo nameC s.data.toList i = j := ⟨_, rfl⟩
  rw [hj] at hU hc
  have HJ : Hid (upTo nameC s.data.toList i = j) := hj
  clear hj
  obtain ⟨x, hz, hx, hx2, hsl⟩ := piece s hU.1 hU.2
  have c' : (16 : Int) < (x.size : Int) := by omega
  clear hx hx2 hz hc hU
  go_enter Tryd.func30, Tryd.ntmps30
  go_wp2_with (first | (go_at_call 23; refine (nameEnd_any _ _ (by omega) _ hs).mono ?_; rintro e w' ⟨rfl, rfl⟩; rw [HJ.out]) | (go_at_call 24; refine (isKey_any _ _).mono ?_; rintro e w' ⟨rfl, rfl⟩))
  exact ⟨rfl, rfl, (Below.refl _ _).alloc (Nat.le_refl _) _⟩

set_option maxHeartbeats 4000000 in
theorem name_ok (s : ByteArray) (i : Nat) (hi : i < s.size) (w : World) (hs : s.size ≤ 140737488351232) (hc : ¬ 16 < upTo nameC s.data.toList i - i) :
    Calls Tryd.prog 30 #[.string s, .int .i64 (i : Int)] w fun e w' => e = .returned (tokV ⟨if keyB ((s.data.toList.drop i).take (upTo nameC s.data.toList i - i)) = true then 2 else 1, (s.data.toList.drop i).take (upTo nameC s.data.toList i - i), 0, i⟩) ∧ Below w.heap.size w w' := by
  have hU := upTo_len (p := nameC) (l := s.data.toList) (i := i) (by rw [← Lib.size_eq]; omega)
  rw [← Lib.size_eq] at hU
  obtain ⟨j, hj⟩ : ∃ j, upTo nameC s.data.toList i = j := ⟨_, rfl⟩
  rw [hj] at hU hc ⊢
  have HJ : Hid (upTo nameC s.data.toList i = j) := hj
  clear hj
  obtain ⟨x, hz, hx, hx2, hsl⟩ := piece s hU.1 hU.2
  have c' : ¬ (16 : Int) < (x.size : Int) := by omega
  rw [← hx]
  have HX2 : Hid ((⟨x.data.toList.toArray⟩ : ByteArray) = x) := rfl
  clear hx hx2 hz hc hU
  cases hk : keyB x.data.toList
  · have HK : Hid (keyB x.data.toList = false) := hk
    clear hk
    simp only [Bool.false_eq_true, if_false]
    go_enter Tryd.func30, Tryd.ntmps30
    go_wp2_with (first | (go_at_call 23; refine (nameEnd_any _ _ (by omega) _ hs).mono ?_; rintro e w' ⟨rfl, rfl⟩; rw [HJ.out]) | (go_at_call 24; refine (isKey_any _ _).mono ?_; rintro e w' ⟨rfl, rfl⟩; rw [HK.out]))
    refine bodyPost_ret (v := .agg #[.int .i64 1, .string x, .int .i64 0, .int .i64 i]) (by simp [results, Tryd.results30, go_sem]) rfl ⟨rfl, ?_⟩
    exact (Below.refl _ _).alloc (Nat.le_refl _) _
  · have HK : Hid (keyB x.data.toList = true) := hk
    clear hk
    simp only [if_true]
    go_enter Tryd.func30, Tryd.ntmps30
    go_wp2_with (first | (go_at_call 23; refine (nameEnd_any _ _ (by omega) _ hs).mono ?_; rintro e w' ⟨rfl, rfl⟩; rw [HJ.out]) | (go_at_call 24; refine (isKey_any _ _).mono ?_; rintro e w' ⟨rfl, rfl⟩; rw [HK.out]))
    refine bodyPost_ret (v := .agg #[.int .i64 2, .string x, .int .i64 0, .int .i64 i]) (by simp [results, Tryd.results30, go_sem]) rfl ⟨rfl, ?_⟩
    exact (Below.refl _ _).alloc (Nat.le_refl _) _

theorem drop_sign (s : ByteArray) {i : Nat} (h1 : i ≤ s.size) : ∃ x : ByteArray, x.size = s.size - i ∧ x.data.toList = s.data.toList.drop i ∧
    ∀ W, (Instr.slice 9 (.string s) (some (.int .i64 (i : Int))) none none).run Tryd.prog W = .ok (.string x) W := by
  refine ⟨s.extract i s.size, ?_, Lib.extract_to_end .., fun W => ?_⟩
  · rw [Lib.size_eq, Lib.extract_to_end, List.length_drop, ← Lib.size_eq]
  · rw [run_slice_string_from_if W 9 s .i64 _ Tryd.underlying9, if_pos ⟨by omega, by omega⟩]
    simp
theorem signN_le (l : List UInt8) : signN l ≤ l.length := by
  unfold signN
  split
  · rename_i h
    rw [List.contains_iff_mem] at h
    have : (l.take 2).length = 2 := by
      simp only [List.mem_cons, List.not_mem_nil, or_false] at h
      rcases h with h | h | h | h <;> rw [h] <;> rfl
    rw [List.length_take] at this; omega
  · split
    · rename_i h
      cases l with
      | nil => simp at h
      | cons a r => simp
    · exact Nat.zero_le _

set_option maxHeartbeats 4000000 in
theorem sign_bad (s : ByteArray) (i : Nat) (hi : i < s.size) (w : World) (hc : signN (s.data.toList.drop i) = 0) :
    Calls Tryd.prog 32 #[.string s, .int .i64 (i : Int)] w fun e w' => e = gaveUp 10 i ∧ Below w.heap.size w w' := by
  obtain ⟨x, hz, hx, hsl⟩ := drop_sign s (Nat.le_of_lt hi)
  have HC : Hid (signN x.data.toList = 0) := by show signN x.data.toList = 0; rw [hx]; exact hc
  have hp : 0 < x.size := by omega
  clear hx hc hz
  go_enter Tryd.func32, Tryd.ntmps32
  go_wp2_with (go_at_call 36; refine (signLength_any _ hp _).mono ?_; rintro e w' ⟨rfl, rfl⟩; rw [HC.out])
  exact ⟨rfl, rfl, (Below.refl _ _).alloc (Nat.le_refl _) _⟩

set_option maxHeartbeats 4000000 in
theorem sign_ok (s : ByteArray) (i n : Nat) (hi : i < s.size) (w : World) (hs : s.size ≤ 140737488351232) (hc : signN (s.data.toList.drop i) = n) (h0 : 0 < n) :
    Calls Tryd.prog 32 #[.string s, .int .i64 (i : Int)] w fun e w' => e = .returned (tokV ⟨4, (s.data.toList.drop i).take n, 0, i⟩) ∧ Below w.heap.size w w' := by
  obtain ⟨x, hz, hx, hsl⟩ := drop_sign s (Nat.le_of_lt hi)
  have hle := signN_le (s.data.toList.drop i)
  rw [hc, ← hx, ← Lib.size_eq] at hle
  have HC : Hid (signN x.data.toList = n) := by show signN x.data.toList = n; rw [hx]; exact hc
  have hp : 0 < x.size := by omega
  obtain ⟨y, hyz, hy, hy2, hsy⟩ := piece s (i := i) (j := i + n) (by omega) (by omega)
  rw [show i + n - i = n by omega] at hy
  rw [← hy]
  have hne : ((n : Int) == 0) = false := by rw [beq_eq_false_iff_ne]; omega
  have hle2 : i + n ≤ s.size := by omega
  rw [Int.natCast_add] at hsy
  clear hx hc hz hyz hy hy2
  go_enter Tryd.func32, Tryd.ntmps32
  go_wp2_with (go_at_call 36; refine (signLength_any _ hp _).mono ?_; rintro e w' ⟨rfl, rfl⟩; rw [HC.out])
  refine bodyPost_ret (v := .agg #[.int .i64 4, .string y, .int .i64 0, .int .i64 i]) (by simp [results, Tryd.results32, go_sem]) rfl ⟨rfl, ?_⟩
  exact (Below.refl _ _).alloc (Nat.le_refl _) _

/-- How digits end: what the reader of a number tests. -/
theorem number_parts (s : ByteArray) {i : Nat} {c : UInt8} (hc : s.data.toList[i]? = some c) (hd : digit c = true) :
    i < upTo digit s.data.toList i ∧ upTo digit s.data.toList i ≤ s.size ∧ ∀ x ∈ (s.data.toList.drop i).take (upTo digit s.data.toList i - i), digit x = true := by
  have hi : i < s.data.toList.length := (List.getElem?_eq_some_iff.1 hc).1
  have e1 := upTo_step hc hd
  have e2 := upTo_len (p := digit) (l := s.data.toList) (i := i + 1) (by omega)
  rw [e1, ← Lib.size_eq] at e2
  refine ⟨by omega, e2.2, fun x hx => ?_⟩
  rw [upTo_sub, ← takeWhile_take] at hx
  exact List.all_eq_true.1 (List.all_takeWhile ..) x hx

set_option maxHeartbeats 4000000 in
theorem number_long (s : ByteArray) (i : Nat) (c : UInt8) (hc : s.data.toList[i]? = some c) (hd : digit c = true) (w : World) (hs : s.size ≤ 140737488351232) (h9 : 9 < upTo digit s.data.toList i - i) :
    Calls Tryd.prog 31 #[.string s, .int .i64 (i : Int)] w fun e w' => e = gaveUp 10 i ∧ Below w.heap.size w w' := by
  have hU := number_parts s hc hd
  obtain ⟨j, hj⟩ : ∃ j, upTo digit s.data.toList i = j := ⟨_, rfl⟩
  rw [hj] at hU h9
  have HJ : Hid (upTo digit s.data.toList i = j) := hj
  clear hj
  obtain ⟨x, hz, hx, hx2, hsl⟩ := piece s (Nat.le_of_lt hU.1) hU.2.1
  have c' : (9 : Int) < (x.size : Int) := by omega
  have hi : i ≤ s.size := by omega
  clear hx hx2 hz h9 hU hc hd
  go_enter Tryd.func31, Tryd.ntmps31
  go_wp2_with (first | (go_at_call 34; refine (digitsEnd_any _ _ hi _ hs).mono ?_; rintro e w' ⟨rfl, rfl⟩; rw [HJ.out]) | (go_at_call 22; refine (isLetter_any _ _).mono ?_; rintro e w' ⟨rfl, rfl⟩))
  exact ⟨rfl, rfl, (Below.refl _ _).alloc (Nat.le_refl _) _⟩

set_option maxHeartbeats 4000000 in
theorem number_zero (s : ByteArray) (i : Nat) (c : UInt8) (hc : s.data.toList[i]? = some c) (hd : digit c = true) (w : World) (hs : s.size ≤ 140737488351232) (h9 : ¬ 9 < upTo digit s.data.toList i - i) (h48 : c.toNat = 48) (h1 : 1 < upTo digit s.data.toList i - i) :
    Calls Tryd.prog 31 #[.string s, .int .i64 (i : Int)] w fun e w' => e = gaveUp 10 i ∧ Below w.heap.size w w' := by
  have hU := number_parts s hc hd
  obtain ⟨j, hj⟩ : ∃ j, upTo digit s.data.toList i = j := ⟨_, rfl⟩
  rw [hj] at hU h9 h1
  have HJ : Hid (upTo digit s.data.toList i = j) := hj
  clear hj
  obtain ⟨x, hz, hx, hx2, hsl⟩ := piece s (Nat.le_of_lt hU.1) hU.2.1
  have c9 : ¬ (9 : Int) < (x.size : Int) := by omega
  have c1 : (1 : Int) < (x.size : Int) := by omega
  have hp : 0 < x.size := by omega
  obtain ⟨d, hdx, hdl⟩ := byte_at x hp
  have hdc : d = c := by
    rw [hx, List.getElem?_take_of_lt (by omega), List.getElem?_drop, Nat.add_zero, hc] at hdl
    exact (Option.some.inj hdl).symm
  have hdv : ((d.toNat : Int) == 48) = true := by rw [hdc, h48]; rfl
  have hi : i ≤ s.size := by omega
  clear hx hx2 hz h9 hU hc hd h1 hdl hdc
  go_enter Tryd.func31, Tryd.ntmps31
  go_wp2_with (first | (go_at_call 34; refine (digitsEnd_any _ _ hi _ hs).mono ?_; rintro e w' ⟨rfl, rfl⟩; rw [HJ.out]) | (go_at_call 22; refine (isLetter_any _ _).mono ?_; rintro e w' ⟨rfl, rfl⟩))
  exact ⟨rfl, rfl, (Below.refl _ _).alloc (Nat.le_refl _) _⟩
end Go.Proofs.YtjhjfmmhcpmcbaaDoor
