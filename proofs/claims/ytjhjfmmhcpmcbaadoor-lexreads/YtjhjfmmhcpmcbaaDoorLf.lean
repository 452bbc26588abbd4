/-
  The walks of the program's reader of a number, to its end, and of its reader of a word.
-/
import Derived.Test.YtjhjfmmhcpmcbaaDoorLe
namespace Go.Proofs.YtjhjfmmhcpmcbaaDoor
open Go.RowKit

theorem bcell {W w1 : World} (hb : Below W.heap.size W w1) : (∀ b o, b < W.heap.size → w1.cell? ⟨b, o, none⟩ = W.cell? ⟨b, o, none⟩) ∧ (∀ b o, b < W.heap.size → w1.frozen? ⟨b, o, none⟩ = W.frozen? ⟨b, o, none⟩) :=
  ⟨fun b o h => hb.cell (p := ⟨b, o, none⟩) h, fun b o h => hb.frozen (p := ⟨b, o, none⟩) h⟩
theorem bl2 {w w1 w2 : World} (h1 : Below w.heap.size w w1) (h2 : Below w1.heap.size w1 w2) : Below w.heap.size w w2 := h1.trans (h2.mono h1.size)
theorem bs {w w1 : World} {p : Addr} {u : Value} (h : Below w.heap.size w w1) (hp : w.heap.size ≤ p.block) : Below w.heap.size w (w1.setCell p u) := h.setCell hp u
theorem ba {w w1 : World} {o : Obj} (h : Below w.heap.size w w1) : Below w.heap.size w (w1.alloc o) := h.alloc h.size o

set_option maxHeartbeats 4000000 in
theorem number_letter (s : ByteArray) (i : Nat) (c : UInt8) (hc : s.data.toList[i]? = some c) (hd : digit c = true) (w : World) (hs : s.size ≤ 140737488351232) (h9 : ¬ 9 < upTo digit s.data.toList i - i) (h48 : ¬ (c.toNat = 48 ∧ 1 < upTo digit s.data.toList i - i)) (hb : (s.data.toList[upTo digit s.data.toList i]?).any small = true) :
    Calls Tryd.prog 31 #[.string s, .int .i64 (i : Int)] w fun e w' => e = gaveUp 10 i ∧ Below w.heap.size w w' := by
  have hU := number_parts s hc hd
  obtain ⟨j, hj⟩ : ∃ j, upTo digit s.data.toList i = j := ⟨_, rfl⟩
  rw [hj] at hU h9 h48 hb
  have HJ : Hid (upTo digit s.data.toList i = j) := hj
  clear hj
  obtain ⟨x, hz, hx, hx2, hsl⟩ := piece s (Nat.le_of_lt hU.1) hU.2.1
  have c9 : ¬ (9 : Int) < (x.size : Int) := by omega
  have hp : 0 < x.size := by omega
  obtain ⟨d, hdx, hdl⟩ := byte_at x hp
  have hdc : d = c := by
    rw [hx, List.getElem?_take_of_lt (by omega), List.getElem?_drop, Nat.add_zero, hc] at hdl
    exact (Option.some.inj hdl).symm
  have hi : i ≤ s.size := by omega
  have hjs : j ≤ s.size := hU.2.1
  have hjlt : j < s.size := by
    cases h : s.data.toList[j]? with
    | none => rw [h] at hb; simp at hb
    | some b => have := (List.getElem?_eq_some_iff.1 h).1; rw [← Lib.size_eq] at this; exact this
  have hjlt' : (j : Int) < (s.size : Int) := by omega
  obtain ⟨b, hbx, hbl⟩ := byte_at s hjlt
  have hsm : small b = true := by rw [hbl] at hb; exact hb
  clear hb hbl
  clear hx2 h9 hU hc hd hdl
  by_cases q1 : 1 < x.size
  · have c1 : (1 : Int) < (x.size : Int) := by omega
    have hdv : ((d.toNat : Int) == 48) = false := by
      rw [beq_eq_false_iff_ne, hdc]
      intro e; exact h48 ⟨by omega, by omega⟩
    clear hz h48 hdc
    clear hx
    go_enter Tryd.func31, Tryd.ntmps31
    go_wp2_with (first | (go_at_call 34; refine (digitsEnd_any _ _ hi _ hs).mono ?_; rintro e w' ⟨rfl, rfl⟩; rw [HJ.out]) | (go_at_call 22; refine (isLetter_any _ _).mono ?_; rintro e w' ⟨rfl, rfl⟩))
    exact ⟨rfl, rfl, (Below.refl _ _).alloc (Nat.le_refl _) _⟩
  · have c1 : ¬ (1 : Int) < (x.size : Int) := by omega
    clear hz h48 hdc
    clear hx
    go_enter Tryd.func31, Tryd.ntmps31
    go_wp2_with (first | (go_at_call 34; refine (digitsEnd_any _ _ hi _ hs).mono ?_; rintro e w' ⟨rfl, rfl⟩; rw [HJ.out]) | (go_at_call 22; refine (isLetter_any _ _).mono ?_; rintro e w' ⟨rfl, rfl⟩))
    exact ⟨rfl, rfl, (Below.refl _ _).alloc (Nat.le_refl _) _⟩

set_option maxHeartbeats 4000000 in
theorem number_end (s : ByteArray) (i : Nat) (c : UInt8) (hc : s.data.toList[i]? = some c) (hd : digit c = true) (w : World) (hs : s.size ≤ 140737488351232) (h9 : ¬ 9 < upTo digit s.data.toList i - i) (h48 : ¬ (c.toNat = 48 ∧ 1 < upTo digit s.data.toList i - i)) (hb : s.size ≤ upTo digit s.data.toList i) :
    Calls Tryd.prog 31 #[.string s, .int .i64 (i : Int)] w fun e w' => e = .returned (tokV ⟨3, (s.data.toList.drop i).take (upTo digit s.data.toList i - i), numV ((s.data.toList.drop i).take (upTo digit s.data.toList i - i)), i⟩) ∧ Below w.heap.size w w' := by
  have hU := number_parts s hc hd
  obtain ⟨j, hj⟩ : ∃ j, upTo digit s.data.toList i = j := ⟨_, rfl⟩
  rw [hj] at hU h9 h48 hb ⊢
  have HJ : Hid (upTo digit s.data.toList i = j) := hj
  clear hj
  obtain ⟨x, hz, hx, hx2, hsl⟩ := piece s (Nat.le_of_lt hU.1) hU.2.1
  have c9 : ¬ (9 : Int) < (x.size : Int) := by omega
  have hp : 0 < x.size := by omega
  obtain ⟨d, hdx, hdl⟩ := byte_at x hp
  have hdc : d = c := by
    rw [hx, List.getElem?_take_of_lt (by omega), List.getElem?_drop, Nat.add_zero, hc] at hdl
    exact (Option.some.inj hdl).symm
  have hi : i ≤ s.size := by omega
  have hjs : j ≤ s.size := hU.2.1
  have HD : Hid (∀ y ∈ x.data.toList, digit y = true) := by rw [hx]; exact hU.2.2
  have h9' : x.size ≤ 9 := by omega
  rw [← hx]
  have hjlt : ¬ (j : Int) < (s.size : Int) := by omega
  clear hb
  clear hx2 h9 hU hc hd hdl
  by_cases q1 : 1 < x.size
  · have c1 : (1 : Int) < (x.size : Int) := by omega
    have hdv : ((d.toNat : Int) == 48) = false := by
      rw [beq_eq_false_iff_ne, hdc]
      intro e; exact h48 ⟨by omega, by omega⟩
    clear hz h48 hdc
    clear hx
    go_enter Tryd.func31, Tryd.ntmps31
    go_wp2_with (first | (go_at_call 34; refine (digitsEnd_any _ _ hi _ hs).mono ?_; rintro e w' ⟨rfl, rfl⟩; rw [HJ.out]) | (go_at_call 22; refine (isLetter_any _ _).mono ?_; rintro e w' ⟨rfl, rfl⟩) | (go_at_call 35; refine (atoi_any _ _ hp h9' HD.out).mono ?_; rintro e w' ⟨rfl, hb⟩; obtain ⟨hc, hf⟩ := bcell hb; have hzz := hb.size; try simp at hzz; have hz0 : w.heap.size < w'.heap.size := (by omega)))
    refine bodyPost_ret (v := .agg #[.int .i64 3, .string x, .int .i64 (numV x.data.toList : Nat), .int .i64 i]) (by simp [results, Tryd.results31, go_sem, hc]) rfl ⟨rfl, ?_⟩
    exact bs (bs (bs (bs (bl2 (ba (Below.refl _ _)) hb) (by simp)) (by simp)) (by simp)) (by simp)
  · have c1 : ¬ (1 : Int) < (x.size : Int) := by omega
    clear hz h48 hdc
    clear hx
    go_enter Tryd.func31, Tryd.ntmps31
    go_wp2_with (first | (go_at_call 34; refine (digitsEnd_any _ _ hi _ hs).mono ?_; rintro e w' ⟨rfl, rfl⟩; rw [HJ.out]) | (go_at_call 22; refine (isLetter_any _ _).mono ?_; rintro e w' ⟨rfl, rfl⟩) | (go_at_call 35; refine (atoi_any _ _ hp h9' HD.out).mono ?_; rintro e w' ⟨rfl, hb⟩; obtain ⟨hc, hf⟩ := bcell hb; have hzz := hb.size; try simp at hzz; have hz0 : w.heap.size < w'.heap.size := (by omega)))
    refine bodyPost_ret (v := .agg #[.int .i64 3, .string x, .int .i64 (numV x.data.toList : Nat), .int .i64 i]) (by simp [results, Tryd.results31, go_sem, hc]) rfl ⟨rfl, ?_⟩
    exact bs (bs (bs (bs (bl2 (ba (Below.refl _ _)) hb) (by simp)) (by simp)) (by simp)) (by simp)

set_option maxHeartbeats 4000000 in
theorem number_other (s : ByteArray) (i : Nat) (c : UInt8) (hc : s.data.toList[i]? = some c) (hd : digit c = true) (w : World) (hs : s.size ≤ 140737488351232) (h9 : ¬ 9 < upTo digit s.data.toList i - i) (h48 : ¬ (c.toNat = 48 ∧ 1 < upTo digit s.data.toList i - i)) (b : UInt8) (hbl : s.data.toList[upTo digit s.data.toList i]? = some b) (hsm : small b = false) :
    Calls Tryd.prog 31 #[.string s, .int .i64 (i : Int)] w fun e w' => e = .returned (tokV ⟨3, (s.data.toList.drop i).take (upTo digit s.data.toList i - i), numV ((s.data.toList.drop i).take (upTo digit s.data.toList i - i)), i⟩) ∧ Below w.heap.size w w' := by
  have hU := number_parts s hc hd
  obtain ⟨j, hj⟩ : ∃ j, upTo digit s.data.toList i = j := ⟨_, rfl⟩
  rw [hj] at hU h9 h48 hbl ⊢
  have HJ : Hid (upTo digit s.data.toList i = j) := hj
  clear hj
  obtain ⟨x, hz, hx, hx2, hsl⟩ := piece s (Nat.le_of_lt hU.1) hU.2.1
  have c9 : ¬ (9 : Int) < (x.size : Int) := by omega
  have hp : 0 < x.size := by omega
  obtain ⟨d, hdx, hdl⟩ := byte_at x hp
  have hdc : d = c := by
    rw [hx, List.getElem?_take_of_lt (by omega), List.getElem?_drop, Nat.add_zero, hc] at hdl
    exact (Option.some.inj hdl).symm
  have hi : i ≤ s.size := by omega
  have hjs : j ≤ s.size := hU.2.1
  have HD : Hid (∀ y ∈ x.data.toList, digit y = true) := by rw [hx]; exact hU.2.2
  have h9' : x.size ≤ 9 := by omega
  rw [← hx]
  have hjlt : j < s.size := by
    have := (List.getElem?_eq_some_iff.1 hbl).1; rw [← Lib.size_eq] at this; exact this
  have hjlt' : (j : Int) < (s.size : Int) := by omega
  have hbx : s[j] = b := by
    obtain ⟨b', h1, h2⟩ := byte_at s hjlt
    rw [h1]; rw [hbl] at h2; exact (Option.some.inj h2).symm
  clear hbl
  clear hx2 h9 hU hc hd hdl
  by_cases q1 : 1 < x.size
  · have c1 : (1 : Int) < (x.size : Int) := by omega
    have hdv : ((d.toNat : Int) == 48) = false := by
      rw [beq_eq_false_iff_ne, hdc]
      intro e; exact h48 ⟨by omega, by omega⟩
    clear hz h48 hdc
    clear hx
    go_enter Tryd.func31, Tryd.ntmps31
    go_wp2_with (first | (go_at_call 34; refine (digitsEnd_any _ _ hi _ hs).mono ?_; rintro e w' ⟨rfl, rfl⟩; rw [HJ.out]) | (go_at_call 22; refine (isLetter_any _ _).mono ?_; rintro e w' ⟨rfl, rfl⟩) | (go_at_call 35; refine (atoi_any _ _ hp h9' HD.out).mono ?_; rintro e w' ⟨rfl, hb⟩; obtain ⟨hc, hf⟩ := bcell hb; have hzz := hb.size; try simp at hzz; have hz0 : w.heap.size < w'.heap.size := (by omega)))
    refine bodyPost_ret (v := .agg #[.int .i64 3, .string x, .int .i64 (numV x.data.toList : Nat), .int .i64 i]) (by simp [results, Tryd.results31, go_sem, hc]) rfl ⟨rfl, ?_⟩
    exact bs (bs (bs (bs (bl2 (ba (Below.refl _ _)) hb) (by simp)) (by simp)) (by simp)) (by simp)
  · have c1 : ¬ (1 : Int) < (x.size : Int) := by omega
    clear hz h48 hdc
    clear hx
    go_enter Tryd.func31, Tryd.ntmps31
    go_wp2_with (first | (go_at_call 34; refine (digitsEnd_any _ _ hi _ hs).mono ?_; rintro e w' ⟨rfl, rfl⟩; rw [HJ.out]) | (go_at_call 22; refine (isLetter_any _ _).mono ?_; rintro e w' ⟨rfl, rfl⟩) | (go_at_call 35; refine (atoi_any _ _ hp h9' HD.out).mono ?_; rintro e w' ⟨rfl, hb⟩; obtain ⟨hc, hf⟩ := bcell hb; have hzz := hb.size; try simp at hzz; have hz0 : w.heap.size < w'.heap.size := (by omega)))
    refine bodyPost_ret (v := .agg #[.int .i64 3, .string x, .int .i64 (numV x.data.toList : Nat), .int .i64 i]) (by simp [results, Tryd.results31, go_sem, hc]) rfl ⟨rfl, ?_⟩
    exact bs (bs (bs (bs (bl2 (ba (Below.refl _ _)) hb) (by simp)) (by simp)) (by simp)) (by simp)

end Go.Proofs.YtjhjfmmhcpmcbaaDoor
