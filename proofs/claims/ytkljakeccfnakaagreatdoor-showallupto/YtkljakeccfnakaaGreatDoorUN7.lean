/-
  The walks of the document's own text of an expression, kind by kind.
-/
import Derived.Test.YtkljakeccfnakaaGreatDoorUM
import Derived.Deep.QuietTactic
import Derived.BigQuiet
namespace Go.Proofs.YtkljakeccfnakaaGreatDoor
open Go.RowKit

set_option maxRecDepth 100000 in
set_option maxHeartbeats 20000000 in
theorem refText_24z (t o : List UInt8) (p : Int) (l : List Px) (a : Option Addr) (cap hi : Nat) (w : World) (K : Hid (TxtK hi w l a)) (hl : l.length = 3) (ht1 : t.length ≤ 100) (_ho1 : o.length ≤ 100) (hsz : szXL l ≤ 2000)  (ho : o = []) :
    Calls Tryz.prog 29 #[.agg #[.int .i64 24, .string ⟨t.toArray⟩, .string ⟨o.toArray⟩, .int .i64 0, .int .i64 p, .slice a 3 cap]] w fun e w' => TxtR (.mk 24 t o 0 p l) e ∧ Below w.heap.size w w' := by
  subst ho
  have hq : ((⟨([] : List UInt8).toArray⟩ : ByteArray).toList == []) = true := by rw [Lib.toList_data]; rfl
  have HK := Hid.intro refKids_24
  have HU := Hid.intro refUses_24
  have HD : Hid (nodeB 24 t [] 0 l = ok24 0 (kindAt l 1) (kindAt l 2) t) := by show _ = _; unfold nodeB; rw [show numB 24 0 = false from by decide]; simp [ok24]
  have HL := Hid.intro hl
  have HSZ := Hid.intro hsz
  clear hl hsz
  go_enter Tryz.func29, Tryz.ntmps29
  go_wp2_with fail
  go_quiet ((first | (go_at_call 61; exact Calls.quiet_of_same (HK.out _)) | (go_at_call 99)))
  go_wp2_with (first | (go_at_call 62; refine (HU.out _).mono ?_; rintro e w1 ⟨rfl, rfl⟩))
  go_loopw [4, 5] (fun kv iv wr => ∃ (i : Nat), i ≤ 3 ∧ iv = .int .i64 i ∧ Hid ((l.take i).all wfX = true) ∧ Hid (wr.ownsRow (w.heap.size + 1) 9 1 kv i (strs (l.take i))) ∧ Hid (BxE wr w.heap.size 24 ⟨t.toArray⟩ ⟨([] : List UInt8).toArray⟩ 0 p (.slice a 3 cap)) ∧ Hid (Below w.heap.size w wr)) (fun _ iv _ => 3 - (intOf iv).toNat)
  case atStart => exact ⟨0, Nat.zero_le _, rfl, by simp [Hid], World.ownsRow_nil _ _ _ _, ⟨by go_simp, by go_simp, by go_simp, by go_simp, by go_simp, by go_simp⟩, bdn (ba (Below.refl _ _))⟩
  case round =>
    obtain ⟨i, hi', rfl, hs, hr, hx, hb⟩ := hrel
    obtain ⟨ao, kc, hv⟩ := row_len9 hr.out
    subst hv
    obtain ⟨c0, c1, c2, c3, c4, c5⟩ := hx.out
    have lw := lt_cell c0
    by_cases c : i < 3
    · have c' : (i : Int) < 3 := by omega
      rcases K.out.hab with h0 | ⟨b, off, rfl, hR⟩
      · exact absurd HL.out (by rw [h0]; simp)
      have hbl : b < w.heap.size := Nat.lt_of_lt_of_le hR.1 K.out.hhi
      obtain ⟨y, hy⟩ : ∃ y, l[i]? = some y := ⟨_, List.getElem?_eq_getElem (by have := HL.out; omega)⟩
      obtain ⟨ka, cp, hkc, hky⟩ := hR.2 i y hy
      obtain ⟨HK0, HK1, HK2, HK3, HK4, HK5⟩ := hkc.keep hb.out hbl
      have HC : Hid (Calls Tryz.prog 29 #[.agg #[.int .i64 y.kind, .string ⟨y.text.toArray⟩, .string ⟨y.other.toArray⟩, .int .i64 y.n, .int .i64 y.pl, .slice ka y.kids.length cp]] wr fun e w' => TxtR y e ∧ Below wr.heap.size wr w') := K.out.ih i y _ wr hy hb.out (hky.keep (hb.out.mono K.out.hhi))
      have HY : Hid (l[i]? = some y) := hy
      have hbr : b < wr.heap.size := Nat.lt_of_lt_of_le hbl hb.out.size
      clear hkc hky hy hR
      generalize y.kids.length = yl at *
      go_wp2_with fail
      refine (HC.out).mono ?_
      rintro e w1 ⟨⟨z, q, rfl, hq, hz, hzl⟩, hb1⟩
      have HX1 := Hid.intro (hx.out.keep hb1)
      have HB1 : Hid (Below w.heap.size w w1) := bl2 hb.out hb1
      have HR1 := Hid.intro (row_below hr.out hb1)
      clear hb1 HK0 HK1 HK2 HK3 HK4 HK5 hbr c0 c1 c2 c3 c4 c5 lw HC
      have HQ := Hid.intro (And.intro hq (And.intro hz hzl))
      clear hq hz hzl
      cases q with
      | false =>
        go_wp2_with fail
        go_ret2
        exact ⟨txt_no (wf_kid_no HY.out HQ.out.1.symm), HB1.out⟩
      | true =>
        have HZT : Hid (z = shwX y) := Hid.intro (HQ.out.2.1 rfl)
        have HWT : Hid (wfX y = true) := Hid.intro HQ.out.1.symm
        clear HQ
        obtain ⟨i0, hi0, hz0, hz1, hz2⟩ := info9
        have lo1 : w.heap.size < w1.heap.size := lt_cell HX1.out.1
        go_wp2_with (at_builtin; refine wpList_append_own _ rfl _ _ 86 rfl (w.heap.size + 1) 9 i0 _ 1 16 Tryz.underlying86 hi0 hz0 hz1 hz2 rfl (by omega) _ i (strs (l.take i)) rfl (row_alloc HR1.out _) ⟨w1.heap.size, 0, none⟩ 1 1 [.string ⟨z.toArray⟩] rfl rfl ?qc2 ?qc3 ?qc4 ?qc5 ?qc6 ?_)
        try (case qc2 =>
          intro z' u hz'
          match z' with
          | 0 => rw [Addr.add_lit]; exact cell_new (by simp) hz'
          | z' + 1 => simp at hz')
        try (case qc3 => first | (intro u hu; simp at hu; subst hu; rfl) | simp [Value.oneCell'])
        try (case qc4 => unfold maxLen; omega)
        try (case qc5 => omega)
        try (case qc6 => simp; omega)
        intro v1 w2 hown hgrow hnil
        have HOWN : Hid (w2.ownsRow (w.heap.size + 1) 9 1 v1 (i + 1) (strs (l.take (i + 1)))) := Hid.intro (row_more HY.out (by rw [← HZT.out]; exact hown))
        have HX2 := Hid.intro ((hx_alloc HX1.out _).grown hgrow (fun e => by have := row_base HR1.out e.symm; omega))
        have HB2 : Hid (Below w.heap.size w w2) := Hid.intro ((ba HB1.out).grown hgrow (by simp; omega) (fun k hk => by have := row_base HR1.out hk; omega))
        have HA : Hid ((l.take (i + 1)).all wfX = true) := Hid.intro (all_take HY.out hs.out HWT.out)
        clear hown hgrow hnil
        go_wp2_with fail
        go_roundw
        case rel => exact ⟨i + 1, by omega, by go_num, HA.out, HOWN.out, HX2.out, HB2.out⟩
        case measure => simp [intOf]; omega
    · have c' : ¬ (i : Int) < 3 := by omega
      obtain rfl : i = 3 := by omega
      have HA : Hid (l.all wfX = true) := by have := hs.out; rw [List.take_of_length_le (by have := HL.out; omega)] at this; exact this
      obtain ⟨y0, y1, y2, HLL⟩ : ∃ y0 y1 y2, l = [y0, y1, y2] := by have := HL.out; match l, this with | [y0, y1, y2], _ => exact ⟨y0, y1, y2, rfl⟩
      subst HLL
      obtain ⟨g, rfl, lg, hg⟩ := row_str hr.out (by omega)
      have k0 := hg 0 y0 (by omega) (by simp)
      have HZ0 : Hid (wfX y0 = true) := Hid.intro (List.all_eq_true.1 HA.out y0 (by simp))
      have l0 : (shwX y0).length ≤ 400000 := by have h1 := shw_sz HZ0.out; have h2 := HSZ.out; simp only [szXL] at h2; omega
      obtain ⟨s0, hs0⟩ : ∃ s, s = shwX y0 := ⟨_, rfl⟩
      rw [← hs0] at k0 l0
      have HS0 : Hid (s0 = shwX y0 ∧ s0.length ≤ 200 * szX y0) := Hid.intro ⟨hs0, by rw [hs0]; exact shw_sz HZ0.out⟩
      clear hs0
      have k1 := hg 1 y1 (by omega) (by simp)
      have HZ1 : Hid (wfX y1 = true) := Hid.intro (List.all_eq_true.1 HA.out y1 (by simp))
      have l1 : (shwX y1).length ≤ 400000 := by have h1 := shw_sz HZ1.out; have h2 := HSZ.out; simp only [szXL] at h2; omega
      obtain ⟨s1, hs1⟩ : ∃ s, s = shwX y1 := ⟨_, rfl⟩
      rw [← hs1] at k1 l1
      have HS1 : Hid (s1 = shwX y1 ∧ s1.length ≤ 200 * szX y1) := Hid.intro ⟨hs1, by rw [hs1]; exact shw_sz HZ1.out⟩
      clear hs1
      have k2 := hg 2 y2 (by omega) (by simp)
      have HZ2 : Hid (wfX y2 = true) := Hid.intro (List.all_eq_true.1 HA.out y2 (by simp))
      have l2 : (shwX y2).length ≤ 400000 := by have h1 := shw_sz HZ2.out; have h2 := HSZ.out; simp only [szXL] at h2; omega
      obtain ⟨s2, hs2⟩ : ∃ s, s = shwX y2 := ⟨_, rfl⟩
      rw [← hs2] at k2 l2
      have HS2 : Hid (s2 = shwX y2 ∧ s2.length ≤ 200 * szX y2) := Hid.intro ⟨hs2, by rw [hs2]; exact shw_sz HZ2.out⟩
      clear hs2
      clear hg hr
      rcases K.out.hab with h0 | ⟨b, off, rfl, hR⟩
      · exact absurd h0 (by simp)
      have hbl : b < w.heap.size := Nat.lt_of_lt_of_le hR.1 K.out.hhi
      have u1 := hb.out.cell (p := ⟨b, off + 6, none⟩) hbl
      have u2 := hb.out.cell (p := ⟨b, off + 12, none⟩) hbl
      have z1 := hR.kind (j := 1) (by simp)
      have z2 := hR.kind (j := 2) (by simp)
      rw [show off + 1 * 6 = off + 6 by omega] at z1
      rw [show off + 2 * 6 = off + 12 by omega] at z2
      rw [z1] at u1
      rw [z2] at u2
      have HC : Hid (Calls Tryz.prog 63 #[.agg #[.int .i64 24, .string ⟨t.toArray⟩, .string ⟨([] : List UInt8).toArray⟩, .int .i64 0, .int .i64 p, .slice (some ⟨b, off, none⟩) 3 cap], .slice (some ⟨g, 0, none⟩) 3 kc] wr fun e w' => ArmsR t [] 0 (kindAt [y0, y1, y2] 1) (kindAt [y0, y1, y2] 2) s0 s1 s2 e ∧ Below wr.heap.size wr w') := Hid.intro (refArms_any 0 t [] p b off cap g kc s0 s1 s2 _ _ wr ⟨k0, k1, k2, lg, by omega, by omega, by omega⟩ (Nat.lt_of_lt_of_le hbl hb.out.size) u1 u2 ht1)
      clear u1 u2 z1 z2 hR
      go_wp2_with fail
      refine (HC.out).mono ?_
      rintro e w1 ⟨⟨z, q, rfl, hq, hz, hzl⟩, hb1⟩
      have HQ := Hid.intro (And.intro hq (And.intro hz hzl))
      clear hq hz hzl
      go_wp2_with fail
      go_ret2
      refine ⟨txt_yes (s := z) rfl (by rw [wf_node_of HD.out HA.out]; exact HQ.out.1) (fun h => ?_) ?_, bl2 hb.out hb1⟩
      · rw [HQ.out.2.1 h]
        show _ = weave (pcs 24 t [] 0) (pick3 24 0 [shwX y0, shwX y1, shwX y2])
        rw [← HS0.out.1, ← HS1.out.1, ← HS2.out.1]
      · have h1 := HQ.out.2.2
        have := HS0.out.2; have := HS1.out.2; have := HS2.out.2
        simp only [szX, szXL]
        omega
set_option maxRecDepth 100000 in
set_option maxHeartbeats 20000000 in
theorem refText_24n (t o : List UInt8) (n p : Int) (l : List Px) (a : Option Addr) (cap hi : Nat) (w : World) (K : Hid (TxtK hi w l a)) (hl : l.length = 3) (ht1 : t.length ≤ 100) (_ho1 : o.length ≤ 100) (hsz : szXL l ≤ 2000) (hn : n ≠ 0) (ho : o = []) :
    Calls Tryz.prog 29 #[.agg #[.int .i64 24, .string ⟨t.toArray⟩, .string ⟨o.toArray⟩, .int .i64 n, .int .i64 p, .slice a 3 cap]] w fun e w' => TxtR (.mk 24 t o n p l) e ∧ Below w.heap.size w w' := by
  subst ho
  have hq : ((⟨([] : List UInt8).toArray⟩ : ByteArray).toList == []) = true := by rw [Lib.toList_data]; rfl
  have HK := Hid.intro refKids_24
  have HU := Hid.intro refUses_24
  have hn0 : (n == 0) = false := by rw [beq_eq_false_iff_ne]; exact hn
  have hn1 : (n != 0) = true := by rw [bne_iff_ne]; exact hn
  have HD : Hid (nodeB 24 t [] n l = ok24 n (kindAt l 1) (kindAt l 2) t) := by
    show _ = _
    unfold ok24
    by_cases q1 : n = 1
    · subst q1; simp [nodeB, kidsN, textB, otherB, numB, armsB, usesB, hl]; first | done | (rw [Bool.and_comm]) | (rw [eq_iff_iff]; constructor <;> (rintro ⟨h1, h2⟩; exact ⟨h2, h1⟩))
    by_cases q2 : n = 2
    · subst q2; simp [nodeB, kidsN, textB, otherB, numB, armsB, usesB, hl]; first | done | (rw [Bool.and_comm])
    by_cases q3 : n = 3
    · subst q3; simp [nodeB, kidsN, textB, otherB, numB, armsB, usesB, hl]
    have : numB 24 n = false := by unfold numB; rw [if_neg (by decide), if_neg (by decide), if_pos (by decide), Bool.and_eq_false_iff, decide_eq_false_iff_not, decide_eq_false_iff_not]; omega
    unfold nodeB
    rw [this]
    simp [q1, q2, q3]
  have HL := Hid.intro hl
  have HSZ := Hid.intro hsz
  clear hl hsz hn
  go_enter Tryz.func29, Tryz.ntmps29
  go_wp2_with fail
  go_quiet ((first | (go_at_call 61; exact Calls.quiet_of_same (HK.out _)) | (go_at_call 99)))
  go_wp2_with (first | (go_at_call 62; refine (HU.out _).mono ?_; rintro e w1 ⟨rfl, rfl⟩))
  go_loopw [4, 5] (fun kv iv wr => ∃ (i : Nat), i ≤ 3 ∧ iv = .int .i64 i ∧ Hid ((l.take i).all wfX = true) ∧ Hid (wr.ownsRow (w.heap.size + 1) 9 1 kv i (strs (l.take i))) ∧ Hid (BxE wr w.heap.size 24 ⟨t.toArray⟩ ⟨([] : List UInt8).toArray⟩ n p (.slice a 3 cap)) ∧ Hid (Below w.heap.size w wr)) (fun _ iv _ => 3 - (intOf iv).toNat)
  case atStart => exact ⟨0, Nat.zero_le _, rfl, by simp [Hid], World.ownsRow_nil _ _ _ _, ⟨by go_simp, by go_simp, by go_simp, by go_simp, by go_simp, by go_simp⟩, bdn (ba (Below.refl _ _))⟩
  case round =>
    obtain ⟨i, hi', rfl, hs, hr, hx, hb⟩ := hrel
    obtain ⟨ao, kc, hv⟩ := row_len9 hr.out
    subst hv
    obtain ⟨c0, c1, c2, c3, c4, c5⟩ := hx.out
    have lw := lt_cell c0
    by_cases c : i < 3
    · have c' : (i : Int) < 3 := by omega
      rcases K.out.hab with h0 | ⟨b, off, rfl, hR⟩
      · exact absurd HL.out (by rw [h0]; simp)
      have hbl : b < w.heap.size := Nat.lt_of_lt_of_le hR.1 K.out.hhi
      obtain ⟨y, hy⟩ : ∃ y, l[i]? = some y := ⟨_, List.getElem?_eq_getElem (by have := HL.out; omega)⟩
      obtain ⟨ka, cp, hkc, hky⟩ := hR.2 i y hy
      obtain ⟨HK0, HK1, HK2, HK3, HK4, HK5⟩ := hkc.keep hb.out hbl
      have HC : Hid (Calls Tryz.prog 29 #[.agg #[.int .i64 y.kind, .string ⟨y.text.toArray⟩, .string ⟨y.other.toArray⟩, .int .i64 y.n, .int .i64 y.pl, .slice ka y.kids.length cp]] wr fun e w' => TxtR y e ∧ Below wr.heap.size wr w') := K.out.ih i y _ wr hy hb.out (hky.keep (hb.out.mono K.out.hhi))
      have HY : Hid (l[i]? = some y) := hy
      have hbr : b < wr.heap.size := Nat.lt_of_lt_of_le hbl hb.out.size
      clear hkc hky hy hR
      generalize y.kids.length = yl at *
      go_wp2_with fail
      refine (HC.out).mono ?_
      rintro e w1 ⟨⟨z, q, rfl, hq, hz, hzl⟩, hb1⟩
      have HX1 := Hid.intro (hx.out.keep hb1)
      have HB1 : Hid (Below w.heap.size w w1) := bl2 hb.out hb1
      have HR1 := Hid.intro (row_below hr.out hb1)
      clear hb1 HK0 HK1 HK2 HK3 HK4 HK5 hbr c0 c1 c2 c3 c4 c5 lw HC
      have HQ := Hid.intro (And.intro hq (And.intro hz hzl))
      clear hq hz hzl
      cases q with
      | false =>
        go_wp2_with fail
        go_ret2
        exact ⟨txt_no (wf_kid_no HY.out HQ.out.1.symm), HB1.out⟩
      | true =>
        have HZT : Hid (z = shwX y) := Hid.intro (HQ.out.2.1 rfl)
        have HWT : Hid (wfX y = true) := Hid.intro HQ.out.1.symm
        clear HQ
        obtain ⟨i0, hi0, hz0, hz1, hz2⟩ := info9
        have lo1 : w.heap.size < w1.heap.size := lt_cell HX1.out.1
        go_wp2_with (at_builtin; refine wpList_append_own _ rfl _ _ 86 rfl (w.heap.size + 1) 9 i0 _ 1 16 Tryz.underlying86 hi0 hz0 hz1 hz2 rfl (by omega) _ i (strs (l.take i)) rfl (row_alloc HR1.out _) ⟨w1.heap.size, 0, none⟩ 1 1 [.string ⟨z.toArray⟩] rfl rfl ?qc2 ?qc3 ?qc4 ?qc5 ?qc6 ?_)
        try (case qc2 =>
          intro z' u hz'
          match z' with
          | 0 => rw [Addr.add_lit]; exact cell_new (by simp) hz'
          | z' + 1 => simp at hz')
        try (case qc3 => first | (intro u hu; simp at hu; subst hu; rfl) | simp [Value.oneCell'])
        try (case qc4 => unfold maxLen; omega)
        try (case qc5 => omega)
        try (case qc6 => simp; omega)
        intro v1 w2 hown hgrow hnil
        have HOWN : Hid (w2.ownsRow (w.heap.size + 1) 9 1 v1 (i + 1) (strs (l.take (i + 1)))) := Hid.intro (row_more HY.out (by rw [← HZT.out]; exact hown))
        have HX2 := Hid.intro ((hx_alloc HX1.out _).grown hgrow (fun e => by have := row_base HR1.out e.symm; omega))
        have HB2 : Hid (Below w.heap.size w w2) := Hid.intro ((ba HB1.out).grown hgrow (by simp; omega) (fun k hk => by have := row_base HR1.out hk; omega))
        have HA : Hid ((l.take (i + 1)).all wfX = true) := Hid.intro (all_take HY.out hs.out HWT.out)
        clear hown hgrow hnil
        go_wp2_with fail
        go_roundw
        case rel => exact ⟨i + 1, by omega, by go_num, HA.out, HOWN.out, HX2.out, HB2.out⟩
        case measure => simp [intOf]; omega
    · have c' : ¬ (i : Int) < 3 := by omega
      obtain rfl : i = 3 := by omega
      have HA : Hid (l.all wfX = true) := by have := hs.out; rw [List.take_of_length_le (by have := HL.out; omega)] at this; exact this
      obtain ⟨y0, y1, y2, HLL⟩ : ∃ y0 y1 y2, l = [y0, y1, y2] := by have := HL.out; match l, this with | [y0, y1, y2], _ => exact ⟨y0, y1, y2, rfl⟩
      subst HLL
      obtain ⟨g, rfl, lg, hg⟩ := row_str hr.out (by omega)
      have k0 := hg 0 y0 (by omega) (by simp)
      have HZ0 : Hid (wfX y0 = true) := Hid.intro (List.all_eq_true.1 HA.out y0 (by simp))
      have l0 : (shwX y0).length ≤ 400000 := by have h1 := shw_sz HZ0.out; have h2 := HSZ.out; simp only [szXL] at h2; omega
      obtain ⟨s0, hs0⟩ : ∃ s, s = shwX y0 := ⟨_, rfl⟩
      rw [← hs0] at k0 l0
      have HS0 : Hid (s0 = shwX y0 ∧ s0.length ≤ 200 * szX y0) := Hid.intro ⟨hs0, by rw [hs0]; exact shw_sz HZ0.out⟩
      clear hs0
      have k1 := hg 1 y1 (by omega) (by simp)
      have HZ1 : Hid (wfX y1 = true) := Hid.intro (List.all_eq_true.1 HA.out y1 (by simp))
      have l1 : (shwX y1).length ≤ 400000 := by have h1 := shw_sz HZ1.out; have h2 := HSZ.out; simp only [szXL] at h2; omega
      obtain ⟨s1, hs1⟩ : ∃ s, s = shwX y1 := ⟨_, rfl⟩
      rw [← hs1] at k1 l1
      have HS1 : Hid (s1 = shwX y1 ∧ s1.length ≤ 200 * szX y1) := Hid.intro ⟨hs1, by rw [hs1]; exact shw_sz HZ1.out⟩
      clear hs1
      have k2 := hg 2 y2 (by omega) (by simp)
      have HZ2 : Hid (wfX y2 = true) := Hid.intro (List.all_eq_true.1 HA.out y2 (by simp))
      have l2 : (shwX y2).length ≤ 400000 := by have h1 := shw_sz HZ2.out; have h2 := HSZ.out; simp only [szXL] at h2; omega
      obtain ⟨s2, hs2⟩ : ∃ s, s = shwX y2 := ⟨_, rfl⟩
      rw [← hs2] at k2 l2
      have HS2 : Hid (s2 = shwX y2 ∧ s2.length ≤ 200 * szX y2) := Hid.intro ⟨hs2, by rw [hs2]; exact shw_sz HZ2.out⟩
      clear hs2
      clear hg hr
      rcases K.out.hab with h0 | ⟨b, off, rfl, hR⟩
      · exact absurd h0 (by simp)
      have hbl : b < w.heap.size := Nat.lt_of_lt_of_le hR.1 K.out.hhi
      have u1 := hb.out.cell (p := ⟨b, off + 6, none⟩) hbl
      have u2 := hb.out.cell (p := ⟨b, off + 12, none⟩) hbl
      have z1 := hR.kind (j := 1) (by simp)
      have z2 := hR.kind (j := 2) (by simp)
      rw [show off + 1 * 6 = off + 6 by omega] at z1
      rw [show off + 2 * 6 = off + 12 by omega] at z2
      rw [z1] at u1
      rw [z2] at u2
      have HC : Hid (Calls Tryz.prog 63 #[.agg #[.int .i64 24, .string ⟨t.toArray⟩, .string ⟨([] : List UInt8).toArray⟩, .int .i64 n, .int .i64 p, .slice (some ⟨b, off, none⟩) 3 cap], .slice (some ⟨g, 0, none⟩) 3 kc] wr fun e w' => ArmsR t [] n (kindAt [y0, y1, y2] 1) (kindAt [y0, y1, y2] 2) s0 s1 s2 e ∧ Below wr.heap.size wr w') := Hid.intro (refArms_any n t [] p b off cap g kc s0 s1 s2 _ _ wr ⟨k0, k1, k2, lg, by omega, by omega, by omega⟩ (Nat.lt_of_lt_of_le hbl hb.out.size) u1 u2 ht1)
      clear u1 u2 z1 z2 hR
      go_wp2_with fail
      refine (HC.out).mono ?_
      rintro e w1 ⟨⟨z, q, rfl, hq, hz, hzl⟩, hb1⟩
      have HQ := Hid.intro (And.intro hq (And.intro hz hzl))
      clear hq hz hzl
      go_wp2_with fail
      go_ret2
      refine ⟨txt_yes (s := z) rfl (by rw [wf_node_of HD.out HA.out]; exact HQ.out.1) (fun h => ?_) ?_, bl2 hb.out hb1⟩
      · rw [HQ.out.2.1 h]
        show _ = weave (pcs 24 t [] n) (pick3 24 n [shwX y0, shwX y1, shwX y2])
        rw [← HS0.out.1, ← HS1.out.1, ← HS2.out.1]
      · have h1 := HQ.out.2.2
        have := HS0.out.2; have := HS1.out.2; have := HS2.out.2
        simp only [szX, szXL]
        omega
end Go.Proofs.YtkljakeccfnakaaGreatDoor
