/-
  The walks of the document's own text of an expression, kind by kind.
-/
import Derived.Test.YtkljakeccfnakaaGreatDoorUM
import Derived.Deep.QuietTactic
import Derived.BigQuiet
namespace Go.Proofs.YtkljakeccfnakaaGreatDoor
open Go.RowKit

set_option maxRecDepth 100000 in
set_option maxHeartbeats 20000000 in
theorem refText_1z (t o : List UInt8) (p : Int) (l : List Px) (a : Option Addr) (cap hi : Nat) (w : World) (K : Hid (TxtK hi w l a)) (hl : l.length = 0) (ht1 : t.length ≤ 100) (_ho1 : o.length ≤ 100) (hsz : szXL l ≤ 2000) (ht : t = []) (ho : o = []) :
    Calls Tryz.prog 29 #[.agg #[.int .i64 1, .string ⟨t.toArray⟩, .string ⟨o.toArray⟩, .int .i64 0, .int .i64 p, .slice a 0 cap]] w fun e w' => TxtR (.mk 1 t o 0 p l) e ∧ Below w.heap.size w w' := by
  subst ho
  have hq : ((⟨([] : List UInt8).toArray⟩ : ByteArray).toList == []) = true := by rw [Lib.toList_data]; rfl
  subst ht
  have hq2 : ((⟨([] : List UInt8).toArray⟩ : ByteArray).toList == []) = true := by rw [Lib.toList_data]; rfl
  have HK := Hid.intro refKids_1
  have HU := Hid.intro refUses_1
  have HD : Hid (nodeB 1 [] [] 0 l = true) := by show _ = _; simp [nodeB, kidsN, textB, otherB, numB, armsB, usesB, hl]
  have HL := Hid.intro hl
  have HSZ := Hid.intro hsz
  clear hl hsz
  go_enter Tryz.func29, Tryz.ntmps29
  go_wp2_with fail
  go_quiet ((first | (go_at_call 61; exact Calls.quiet_of_same (HK.out _)) | (go_at_call 99)))
  go_wp2_with (first | (go_at_call 62; refine (HU.out _).mono ?_; rintro e w1 ⟨rfl, rfl⟩))
  go_loopw [4, 5] (fun kv iv wr => ∃ (i : Nat), i ≤ 0 ∧ iv = .int .i64 i ∧ Hid ((l.take i).all wfX = true) ∧ Hid (wr.ownsRow (w.heap.size + 1) 9 1 kv i (strs (l.take i))) ∧ Hid (BxE wr w.heap.size 1 ⟨([] : List UInt8).toArray⟩ ⟨([] : List UInt8).toArray⟩ 0 p (.slice a 0 cap)) ∧ Hid (Below w.heap.size w wr)) (fun _ iv _ => 0 - (intOf iv).toNat)
  case atStart => exact ⟨0, Nat.zero_le _, rfl, by simp [Hid], World.ownsRow_nil _ _ _ _, ⟨by go_simp, by go_simp, by go_simp, by go_simp, by go_simp, by go_simp⟩, bdn (ba (Below.refl _ _))⟩
  case round =>
    obtain ⟨i, hi', rfl, hs, hr, hx, hb⟩ := hrel
    obtain ⟨ao, kc, hv⟩ := row_len9 hr.out
    subst hv
    obtain ⟨c0, c1, c2, c3, c4, c5⟩ := hx.out
    have lw := lt_cell c0
    obtain rfl : i = 0 := by omega
    have HA : Hid (l.all wfX = true) := by have := hs.out; rw [List.take_of_length_le (by have := HL.out; omega)] at this; exact this
    obtain rfl : l = [] := List.eq_nil_of_length_eq_zero HL.out
    clear hr
    have HDg := Hid.intro (fun W : World => digits_any 0 (by omega) W)
    go_wp2_with (go_at_call 28; refine (HDg.out _).mono ?_; rintro e w1 ⟨rfl, hb1⟩)
    go_ret2
    exact ⟨txt_yes (s := Lib.decDigits 0) rfl (wf_node_of HD.out HA.out).symm (fun _ => by simp [shwX, shwXL, weave, wv, pcs, pick3]; rfl) (by have := dig_len 0 0 (by omega); simp only [szX, szXL]; omega), bl2 hb.out hb1⟩
set_option maxRecDepth 100000 in
set_option maxHeartbeats 20000000 in
theorem refText_1n (t o : List UInt8) (n p : Int) (l : List Px) (a : Option Addr) (cap hi : Nat) (w : World) (K : Hid (TxtK hi w l a)) (hl : l.length = 0) (ht1 : t.length ≤ 100) (_ho1 : o.length ≤ 100) (hsz : szXL l ≤ 2000) (ht : t = []) (hn : n ≠ 0) (ho : o = []) :
    Calls Tryz.prog 29 #[.agg #[.int .i64 1, .string ⟨t.toArray⟩, .string ⟨o.toArray⟩, .int .i64 n, .int .i64 p, .slice a 0 cap]] w fun e w' => TxtR (.mk 1 t o n p l) e ∧ Below w.heap.size w w' := by
  subst ho
  have hq : ((⟨([] : List UInt8).toArray⟩ : ByteArray).toList == []) = true := by rw [Lib.toList_data]; rfl
  subst ht
  have hq2 : ((⟨([] : List UInt8).toArray⟩ : ByteArray).toList == []) = true := by rw [Lib.toList_data]; rfl
  have HK := Hid.intro refKids_1
  have HU := Hid.intro refUses_1
  have hn0 : (n == 0) = false := by rw [beq_eq_false_iff_ne]; exact hn
  have hn1 : (n != 0) = true := by rw [bne_iff_ne]; exact hn
  have HD : Hid (nodeB 1 [] [] n l = (decide (0 ≤ n) && decide (n ≤ 999999999))) := by show _ = _; simp [nodeB, kidsN, textB, otherB, numB, armsB, usesB, hl]
  have HL := Hid.intro hl
  have HSZ := Hid.intro hsz
  clear hl hsz hn
  go_enter Tryz.func29, Tryz.ntmps29
  go_wp2_with fail
  go_quiet ((first | (go_at_call 61; exact Calls.quiet_of_same (HK.out _)) | (go_at_call 99)))
  go_wp2_with (first | (go_at_call 62; refine (HU.out _).mono ?_; rintro e w1 ⟨rfl, rfl⟩))
  go_loopw [4, 5] (fun kv iv wr => ∃ (i : Nat), i ≤ 0 ∧ iv = .int .i64 i ∧ Hid ((l.take i).all wfX = true) ∧ Hid (wr.ownsRow (w.heap.size + 1) 9 1 kv i (strs (l.take i))) ∧ Hid (BxE wr w.heap.size 1 ⟨([] : List UInt8).toArray⟩ ⟨([] : List UInt8).toArray⟩ n p (.slice a 0 cap)) ∧ Hid (Below w.heap.size w wr)) (fun _ iv _ => 0 - (intOf iv).toNat)
  case atStart => exact ⟨0, Nat.zero_le _, rfl, by simp [Hid], World.ownsRow_nil _ _ _ _, ⟨by go_simp, by go_simp, by go_simp, by go_simp, by go_simp, by go_simp⟩, bdn (ba (Below.refl _ _))⟩
  case round =>
    obtain ⟨i, hi', rfl, hs, hr, hx, hb⟩ := hrel
    obtain ⟨ao, kc, hv⟩ := row_len9 hr.out
    subst hv
    obtain ⟨c0, c1, c2, c3, c4, c5⟩ := hx.out
    have lw := lt_cell c0
    obtain rfl : i = 0 := by omega
    have HA : Hid (l.all wfX = true) := by have := hs.out; rw [List.take_of_length_le (by have := HL.out; omega)] at this; exact this
    obtain rfl : l = [] := List.eq_nil_of_length_eq_zero HL.out
    clear hr
    by_cases r0 : 0 ≤ n
    · by_cases r1 : n ≤ 999999999
      · obtain ⟨m, rfl⟩ : ∃ m : Nat, n = (m : Int) := ⟨n.toNat, by omega⟩
        have HDg := Hid.intro (fun W : World => digits_any m (by omega) W)
        have r2 : ¬ (m : Int) < 0 := by omega
        have r3 : ¬ (m : Int) > 999999999 := by omega
        have r4 : m < 1000000000 := by omega
        clear r0
        go_wp2_with (go_at_call 28; refine (HDg.out _).mono ?_; rintro e w1 ⟨rfl, hb1⟩)
        go_ret2
        exact ⟨txt_yes (s := Lib.decDigits m) rfl (by rw [wf_node_of HD.out HA.out, decide_eq_true (by omega), decide_eq_true (by omega)]; rfl) (fun _ => by simp [shwX, shwXL, weave, wv, pcs, pick3]; unfold Lib.itoa; rw [if_neg (by omega)]; rfl) (by have := dig_len 8 m (by omega); simp only [szX, szXL]; omega), bl2 hb.out hb1⟩
      · have r2 : n > 999999999 := by omega
        have r3 : ¬ n < 0 := by omega
        have E : Hid (wfX (.mk 1 [] [] n p []) = false) := Hid.intro (by rw [wf_node_of HD.out HA.out, decide_eq_false r1, Bool.and_false])
        clear r0 r1
        go_wp2_with fail
        go_ret2
        exact ⟨txt_no E.out, hb.out⟩
    · have r2 : n < 0 := by omega
      have E : Hid (wfX (.mk 1 [] [] n p []) = false) := Hid.intro (by rw [wf_node_of HD.out HA.out, decide_eq_false r0, Bool.false_and])
      clear r0
      go_wp2_with fail
      go_ret2
      exact ⟨txt_no E.out, hb.out⟩
set_option maxRecDepth 100000 in
set_option maxHeartbeats 20000000 in
theorem refText_2z (t o : List UInt8) (p : Int) (l : List Px) (a : Option Addr) (cap hi : Nat) (w : World) (K : Hid (TxtK hi w l a)) (hl : l.length = 0) (ht1 : t.length ≤ 100) (_ho1 : o.length ≤ 100) (hsz : szXL l ≤ 2000) (ht : t = []) (ho : o = []) :
    Calls Tryz.prog 29 #[.agg #[.int .i64 2, .string ⟨t.toArray⟩, .string ⟨o.toArray⟩, .int .i64 0, .int .i64 p, .slice a 0 cap]] w fun e w' => TxtR (.mk 2 t o 0 p l) e ∧ Below w.heap.size w w' := by
  subst ho
  have hq : ((⟨([] : List UInt8).toArray⟩ : ByteArray).toList == []) = true := by rw [Lib.toList_data]; rfl
  subst ht
  have hq2 : ((⟨([] : List UInt8).toArray⟩ : ByteArray).toList == []) = true := by rw [Lib.toList_data]; rfl
  have HK := Hid.intro refKids_2
  have HU := Hid.intro refUses_2
  have HD : Hid (nodeB 2 [] [] 0 l = true) := by show _ = _; simp [nodeB, kidsN, textB, otherB, numB, armsB, usesB, hl]
  have HL := Hid.intro hl
  have HSZ := Hid.intro hsz
  clear hl hsz
  go_enter Tryz.func29, Tryz.ntmps29
  go_wp2_with fail
  go_quiet ((first | (go_at_call 61; exact Calls.quiet_of_same (HK.out _)) | (go_at_call 99)))
  go_wp2_with (first | (go_at_call 62; refine (HU.out _).mono ?_; rintro e w1 ⟨rfl, rfl⟩))
  go_loopw [4, 5] (fun kv iv wr => ∃ (i : Nat), i ≤ 0 ∧ iv = .int .i64 i ∧ Hid ((l.take i).all wfX = true) ∧ Hid (wr.ownsRow (w.heap.size + 1) 9 1 kv i (strs (l.take i))) ∧ Hid (BxE wr w.heap.size 2 ⟨([] : List UInt8).toArray⟩ ⟨([] : List UInt8).toArray⟩ 0 p (.slice a 0 cap)) ∧ Hid (Below w.heap.size w wr)) (fun _ iv _ => 0 - (intOf iv).toNat)
  case atStart => exact ⟨0, Nat.zero_le _, rfl, by simp [Hid], World.ownsRow_nil _ _ _ _, ⟨by go_simp, by go_simp, by go_simp, by go_simp, by go_simp, by go_simp⟩, bdn (ba (Below.refl _ _))⟩
  case round =>
    obtain ⟨i, hi', rfl, hs, hr, hx, hb⟩ := hrel
    obtain ⟨ao, kc, hv⟩ := row_len9 hr.out
    subst hv
    obtain ⟨c0, c1, c2, c3, c4, c5⟩ := hx.out
    have lw := lt_cell c0
    obtain rfl : i = 0 := by omega
    have HA : Hid (l.all wfX = true) := by have := hs.out; rw [List.take_of_length_le (by have := HL.out; omega)] at this; exact this
    obtain rfl : l = [] := List.eq_nil_of_length_eq_zero HL.out
    clear hr
    go_wp2_with fail
    go_ret2
    exact ⟨txt_yes (s := [102, 97, 108, 115, 101]) rfl (wf_node_of HD.out HA.out).symm (fun _ => by simp [shwX, shwXL, weave, wv, pcs, pick3]) (by first | (simp [szX, szXL]; done) | (simp [szX, szXL]; omega)), hb.out⟩
set_option maxRecDepth 100000 in
set_option maxHeartbeats 20000000 in
theorem refText_2n (t o : List UInt8) (n p : Int) (l : List Px) (a : Option Addr) (cap hi : Nat) (w : World) (K : Hid (TxtK hi w l a)) (hl : l.length = 0) (ht1 : t.length ≤ 100) (_ho1 : o.length ≤ 100) (hsz : szXL l ≤ 2000) (ht : t = []) (hn : n ≠ 0) (ho : o = []) :
    Calls Tryz.prog 29 #[.agg #[.int .i64 2, .string ⟨t.toArray⟩, .string ⟨o.toArray⟩, .int .i64 n, .int .i64 p, .slice a 0 cap]] w fun e w' => TxtR (.mk 2 t o n p l) e ∧ Below w.heap.size w w' := by
  subst ho
  have hq : ((⟨([] : List UInt8).toArray⟩ : ByteArray).toList == []) = true := by rw [Lib.toList_data]; rfl
  subst ht
  have hq2 : ((⟨([] : List UInt8).toArray⟩ : ByteArray).toList == []) = true := by rw [Lib.toList_data]; rfl
  have HK := Hid.intro refKids_2
  have HU := Hid.intro refUses_2
  have hn0 : (n == 0) = false := by rw [beq_eq_false_iff_ne]; exact hn
  have hn1 : (n != 0) = true := by rw [bne_iff_ne]; exact hn
  have HD : Hid (nodeB 2 [] [] n l = (n == 1)) := by show _ = _; simp [nodeB, kidsN, textB, otherB, numB, armsB, usesB, hl, hn0]
  have HL := Hid.intro hl
  have HSZ := Hid.intro hsz
  clear hl hsz hn
  go_enter Tryz.func29, Tryz.ntmps29
  go_wp2_with fail
  go_quiet ((first | (go_at_call 61; exact Calls.quiet_of_same (HK.out _)) | (go_at_call 99)))
  go_wp2_with (first | (go_at_call 62; refine (HU.out _).mono ?_; rintro e w1 ⟨rfl, rfl⟩))
  go_loopw [4, 5] (fun kv iv wr => ∃ (i : Nat), i ≤ 0 ∧ iv = .int .i64 i ∧ Hid ((l.take i).all wfX = true) ∧ Hid (wr.ownsRow (w.heap.size + 1) 9 1 kv i (strs (l.take i))) ∧ Hid (BxE wr w.heap.size 2 ⟨([] : List UInt8).toArray⟩ ⟨([] : List UInt8).toArray⟩ n p (.slice a 0 cap)) ∧ Hid (Below w.heap.size w wr)) (fun _ iv _ => 0 - (intOf iv).toNat)
  case atStart => exact ⟨0, Nat.zero_le _, rfl, by simp [Hid], World.ownsRow_nil _ _ _ _, ⟨by go_simp, by go_simp, by go_simp, by go_simp, by go_simp, by go_simp⟩, bdn (ba (Below.refl _ _))⟩
  case round =>
    obtain ⟨i, hi', rfl, hs, hr, hx, hb⟩ := hrel
    obtain ⟨ao, kc, hv⟩ := row_len9 hr.out
    subst hv
    obtain ⟨c0, c1, c2, c3, c4, c5⟩ := hx.out
    have lw := lt_cell c0
    obtain rfl : i = 0 := by omega
    have HA : Hid (l.all wfX = true) := by have := hs.out; rw [List.take_of_length_le (by have := HL.out; omega)] at this; exact this
    obtain rfl : l = [] := List.eq_nil_of_length_eq_zero HL.out
    clear hr
    have HN1 : Hid (n = 1 ∨ (n == 1) = false) := Hid.intro (by by_cases e : n = 1; exact Or.inl e; exact Or.inr (by rw [beq_eq_false_iff_ne]; exact e))
    go_wp2_with fail
    rcases HN1.out with rfl | e1
    · go_region
      all_goals
        simp only [Exit.then]
        go_wp2_with fail
        go_ret2
        exact ⟨txt_yes (s := [116, 114, 117, 101]) rfl (wf_node_of HD.out HA.out).symm (fun _ => by simp [shwX, shwXL, weave, wv, pcs, pick3]) (by first | (simp [szX, szXL]; done) | (simp [szX, szXL]; omega)), hb.out.drew⟩
    · go_region
      all_goals
        simp only [Exit.then]
        go_wp2_with fail
        go_ret2
        exact ⟨txt_yes (s := [116, 114, 117, 101]) rfl (by rw [wf_node_of HD.out HA.out, e1]) (fun h => absurd h (by decide)) (by first | (simp [szX, szXL]; done) | (simp [szX, szXL]; omega)), hb.out.drew⟩
set_option maxRecDepth 100000 in
set_option maxHeartbeats 20000000 in
theorem refText_3 (t o : List UInt8) (p : Int) (l : List Px) (a : Option Addr) (cap hi : Nat) (w : World) (K : Hid (TxtK hi w l a)) (hl : l.length = 0) (ht1 : t.length ≤ 100) (_ho1 : o.length ≤ 100) (hsz : szXL l ≤ 2000) (ht : t = []) (ho : o = []) :
    Calls Tryz.prog 29 #[.agg #[.int .i64 3, .string ⟨t.toArray⟩, .string ⟨o.toArray⟩, .int .i64 0, .int .i64 p, .slice a 0 cap]] w fun e w' => TxtR (.mk 3 t o 0 p l) e ∧ Below w.heap.size w w' := by
  subst ho
  have hq : ((⟨([] : List UInt8).toArray⟩ : ByteArray).toList == []) = true := by rw [Lib.toList_data]; rfl
  subst ht
  have hq2 : ((⟨([] : List UInt8).toArray⟩ : ByteArray).toList == []) = true := by rw [Lib.toList_data]; rfl
  have HK := Hid.intro refKids_3
  have HU := Hid.intro refUses_3
  have HD : Hid (nodeB 3 [] [] 0 l = true) := by show _ = _; simp [nodeB, kidsN, textB, otherB, numB, armsB, usesB, hl]
  have HL := Hid.intro hl
  have HSZ := Hid.intro hsz
  clear hl hsz
  go_enter Tryz.func29, Tryz.ntmps29
  go_wp2_with fail
  go_quiet ((first | (go_at_call 61; exact Calls.quiet_of_same (HK.out _)) | (go_at_call 99)))
  go_wp2_with (first | (go_at_call 62; refine (HU.out _).mono ?_; rintro e w1 ⟨rfl, rfl⟩))
  go_loopw [4, 5] (fun kv iv wr => ∃ (i : Nat), i ≤ 0 ∧ iv = .int .i64 i ∧ Hid ((l.take i).all wfX = true) ∧ Hid (wr.ownsRow (w.heap.size + 1) 9 1 kv i (strs (l.take i))) ∧ Hid (BxE wr w.heap.size 3 ⟨([] : List UInt8).toArray⟩ ⟨([] : List UInt8).toArray⟩ 0 p (.slice a 0 cap)) ∧ Hid (Below w.heap.size w wr)) (fun _ iv _ => 0 - (intOf iv).toNat)
  case atStart => exact ⟨0, Nat.zero_le _, rfl, by simp [Hid], World.ownsRow_nil _ _ _ _, ⟨by go_simp, by go_simp, by go_simp, by go_simp, by go_simp, by go_simp⟩, bdn (ba (Below.refl _ _))⟩
  case round =>
    obtain ⟨i, hi', rfl, hs, hr, hx, hb⟩ := hrel
    obtain ⟨ao, kc, hv⟩ := row_len9 hr.out
    subst hv
    obtain ⟨c0, c1, c2, c3, c4, c5⟩ := hx.out
    have lw := lt_cell c0
    obtain rfl : i = 0 := by omega
    have HA : Hid (l.all wfX = true) := by have := hs.out; rw [List.take_of_length_le (by have := HL.out; omega)] at this; exact this
    obtain rfl : l = [] := List.eq_nil_of_length_eq_zero HL.out
    clear hr
    go_wp2_with fail
    go_ret2
    exact ⟨txt_yes (s := [40, 41]) rfl (wf_node_of HD.out HA.out).symm (fun _ => by simp [shwX, shwXL, weave, wv, pcs, pick3]) (by first | (simp [szX, szXL]; done) | (simp [szX, szXL]; omega)), hb.out⟩
set_option maxRecDepth 100000 in
set_option maxHeartbeats 20000000 in
theorem refText_4 (t o : List UInt8) (p : Int) (l : List Px) (a : Option Addr) (cap hi : Nat) (w : World) (K : Hid (TxtK hi w l a)) (hl : l.length = 0) (ht1 : t.length ≤ 100) (_ho1 : o.length ≤ 100) (hsz : szXL l ≤ 2000) (ht : isNameB t = true) (ho : o = []) :
    Calls Tryz.prog 29 #[.agg #[.int .i64 4, .string ⟨t.toArray⟩, .string ⟨o.toArray⟩, .int .i64 0, .int .i64 p, .slice a 0 cap]] w fun e w' => TxtR (.mk 4 t o 0 p l) e ∧ Below w.heap.size w w' := by
  subst ho
  have hq : ((⟨([] : List UInt8).toArray⟩ : ByteArray).toList == []) = true := by rw [Lib.toList_data]; rfl
  have HT := Hid.intro (name_at t true ht1 ht)
  have HK := Hid.intro refKids_4
  have HU := Hid.intro refUses_4
  have HD : Hid (nodeB 4 t [] 0 l = true) := by show _ = _; simp [nodeB, kidsN, textB, otherB, numB, armsB, usesB, hl, ht]
  have HL := Hid.intro hl
  have HSZ := Hid.intro hsz
  clear hl hsz ht
  go_enter Tryz.func29, Tryz.ntmps29
  go_wp2_with fail
  go_quiet ((first | (go_at_call 61; exact Calls.quiet_of_same (HK.out _)) | (go_at_call 99)))
  go_wp2_with (first | (go_at_call 62; refine (HU.out _).mono ?_; rintro e w1 ⟨rfl, rfl⟩) | (go_at_call 27; refine (HT.out _).mono ?_; rintro e w1 ⟨rfl, rfl⟩))
  go_loopw [4, 5] (fun kv iv wr => ∃ (i : Nat), i ≤ 0 ∧ iv = .int .i64 i ∧ Hid ((l.take i).all wfX = true) ∧ Hid (wr.ownsRow (w.heap.size + 1) 9 1 kv i (strs (l.take i))) ∧ Hid (BxE wr w.heap.size 4 ⟨t.toArray⟩ ⟨([] : List UInt8).toArray⟩ 0 p (.slice a 0 cap)) ∧ Hid (Below w.heap.size w wr)) (fun _ iv _ => 0 - (intOf iv).toNat)
  case atStart => exact ⟨0, Nat.zero_le _, rfl, by simp [Hid], World.ownsRow_nil _ _ _ _, ⟨by go_simp, by go_simp, by go_simp, by go_simp, by go_simp, by go_simp⟩, bdn (ba (Below.refl _ _))⟩
  case round =>
    obtain ⟨i, hi', rfl, hs, hr, hx, hb⟩ := hrel
    obtain ⟨ao, kc, hv⟩ := row_len9 hr.out
    subst hv
    obtain ⟨c0, c1, c2, c3, c4, c5⟩ := hx.out
    have lw := lt_cell c0
    obtain rfl : i = 0 := by omega
    have HA : Hid (l.all wfX = true) := by have := hs.out; rw [List.take_of_length_le (by have := HL.out; omega)] at this; exact this
    obtain rfl : l = [] := List.eq_nil_of_length_eq_zero HL.out
    clear hr
    go_wp2_with fail
    go_ret2
    exact ⟨txt_yes (s := t) rfl (wf_node_of HD.out HA.out).symm (fun _ => by simp [shwX, shwXL, weave, wv, pcs, pick3]) (by first | (simp [szX, szXL]; done) | (simp [szX, szXL]; omega)), hb.out⟩
set_option maxRecDepth 100000 in
set_option maxHeartbeats 20000000 in
theorem refText_10 (t o : List UInt8) (p : Int) (l : List Px) (a : Option Addr) (cap hi : Nat) (w : World) (K : Hid (TxtK hi w l a)) (hl : l.length = 0) (ht1 : t.length ≤ 100) (_ho1 : o.length ≤ 100) (hsz : szXL l ≤ 2000) (ht : isNameB t = true) (ho : o = []) :
    Calls Tryz.prog 29 #[.agg #[.int .i64 10, .string ⟨t.toArray⟩, .string ⟨o.toArray⟩, .int .i64 0, .int .i64 p, .slice a 0 cap]] w fun e w' => TxtR (.mk 10 t o 0 p l) e ∧ Below w.heap.size w w' := by
  subst ho
  have hq : ((⟨([] : List UInt8).toArray⟩ : ByteArray).toList == []) = true := by rw [Lib.toList_data]; rfl
  have HT := Hid.intro (name_at t true ht1 ht)
  have HK := Hid.intro refKids_10
  have HU := Hid.intro refUses_10
  have HD : Hid (nodeB 10 t [] 0 l = true) := by show _ = _; simp [nodeB, kidsN, textB, otherB, numB, armsB, usesB, hl, ht]
  have HL := Hid.intro hl
  have HSZ := Hid.intro hsz
  clear hl hsz ht
  go_enter Tryz.func29, Tryz.ntmps29
  go_wp2_with fail
  go_quiet ((first | (go_at_call 61; exact Calls.quiet_of_same (HK.out _)) | (go_at_call 99)))
  go_wp2_with (first | (go_at_call 62; refine (HU.out _).mono ?_; rintro e w1 ⟨rfl, rfl⟩) | (go_at_call 27; refine (HT.out _).mono ?_; rintro e w1 ⟨rfl, rfl⟩))
  go_loopw [4, 5] (fun kv iv wr => ∃ (i : Nat), i ≤ 0 ∧ iv = .int .i64 i ∧ Hid ((l.take i).all wfX = true) ∧ Hid (wr.ownsRow (w.heap.size + 1) 9 1 kv i (strs (l.take i))) ∧ Hid (BxE wr w.heap.size 10 ⟨t.toArray⟩ ⟨([] : List UInt8).toArray⟩ 0 p (.slice a 0 cap)) ∧ Hid (Below w.heap.size w wr)) (fun _ iv _ => 0 - (intOf iv).toNat)
  case atStart => exact ⟨0, Nat.zero_le _, rfl, by simp [Hid], World.ownsRow_nil _ _ _ _, ⟨by go_simp, by go_simp, by go_simp, by go_simp, by go_simp, by go_simp⟩, bdn (ba (Below.refl _ _))⟩
  case round =>
    obtain ⟨i, hi', rfl, hs, hr, hx, hb⟩ := hrel
    obtain ⟨ao, kc, hv⟩ := row_len9 hr.out
    subst hv
    obtain ⟨c0, c1, c2, c3, c4, c5⟩ := hx.out
    have lw := lt_cell c0
    obtain rfl : i = 0 := by omega
    have HA : Hid (l.all wfX = true) := by have := hs.out; rw [List.take_of_length_le (by have := HL.out; omega)] at this; exact this
    obtain rfl : l = [] := List.eq_nil_of_length_eq_zero HL.out
    clear hr
    go_wp2_with fail
    go_ret2
    exact ⟨txt_yes (s := [33] ++ t) (by simp only [bapp] <;> rfl) (wf_node_of HD.out HA.out).symm (fun _ => by simp [shwX, shwXL, weave, wv, pcs, pick3]) (by first | (simp [szX, szXL]; done) | (simp [szX, szXL]; omega)), hb.out⟩
set_option maxRecDepth 100000 in
set_option maxHeartbeats 20000000 in
theorem refText_18 (t o : List UInt8) (p : Int) (l : List Px) (a : Option Addr) (cap hi : Nat) (w : World) (K : Hid (TxtK hi w l a)) (hl : l.length = 0) (ht1 : t.length ≤ 100) (_ho1 : o.length ≤ 100) (hsz : szXL l ≤ 2000) (ht : t = []) (ho : o = []) :
    Calls Tryz.prog 29 #[.agg #[.int .i64 18, .string ⟨t.toArray⟩, .string ⟨o.toArray⟩, .int .i64 0, .int .i64 p, .slice a 0 cap]] w fun e w' => TxtR (.mk 18 t o 0 p l) e ∧ Below w.heap.size w w' := by
  subst ho
  have hq : ((⟨([] : List UInt8).toArray⟩ : ByteArray).toList == []) = true := by rw [Lib.toList_data]; rfl
  subst ht
  have hq2 : ((⟨([] : List UInt8).toArray⟩ : ByteArray).toList == []) = true := by rw [Lib.toList_data]; rfl
  have HK := Hid.intro refKids_18
  have HU := Hid.intro refUses_18
  have HD : Hid (nodeB 18 [] [] 0 l = true) := by show _ = _; simp [nodeB, kidsN, textB, otherB, numB, armsB, usesB, hl]
  have HL := Hid.intro hl
  have HSZ := Hid.intro hsz
  clear hl hsz
  go_enter Tryz.func29, Tryz.ntmps29
  go_wp2_with fail
  go_quiet ((first | (go_at_call 61; exact Calls.quiet_of_same (HK.out _)) | (go_at_call 99)))
  go_wp2_with (first | (go_at_call 62; refine (HU.out _).mono ?_; rintro e w1 ⟨rfl, rfl⟩))
  go_loopw [4, 5] (fun kv iv wr => ∃ (i : Nat), i ≤ 0 ∧ iv = .int .i64 i ∧ Hid ((l.take i).all wfX = true) ∧ Hid (wr.ownsRow (w.heap.size + 1) 9 1 kv i (strs (l.take i))) ∧ Hid (BxE wr w.heap.size 18 ⟨([] : List UInt8).toArray⟩ ⟨([] : List UInt8).toArray⟩ 0 p (.slice a 0 cap)) ∧ Hid (Below w.heap.size w wr)) (fun _ iv _ => 0 - (intOf iv).toNat)
  case atStart => exact ⟨0, Nat.zero_le _, rfl, by simp [Hid], World.ownsRow_nil _ _ _ _, ⟨by go_simp, by go_simp, by go_simp, by go_simp, by go_simp, by go_simp⟩, bdn (ba (Below.refl _ _))⟩
  case round =>
    obtain ⟨i, hi', rfl, hs, hr, hx, hb⟩ := hrel
    obtain ⟨ao, kc, hv⟩ := row_len9 hr.out
    subst hv
    obtain ⟨c0, c1, c2, c3, c4, c5⟩ := hx.out
    have lw := lt_cell c0
    obtain rfl : i = 0 := by omega
    have HA : Hid (l.all wfX = true) := by have := hs.out; rw [List.take_of_length_le (by have := HL.out; omega)] at this; exact this
    obtain rfl : l = [] := List.eq_nil_of_length_eq_zero HL.out
    clear hr
    go_wp2_with fail
    go_ret2
    exact ⟨txt_yes (s := [110, 111, 110, 101]) rfl (wf_node_of HD.out HA.out).symm (fun _ => by simp [shwX, shwXL, weave, wv, pcs, pick3]) (by first | (simp [szX, szXL]; done) | (simp [szX, szXL]; omega)), hb.out⟩
end Go.Proofs.YtkljakeccfnakaaGreatDoor
