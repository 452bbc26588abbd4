/-
 The document's own Tokens.
-/
import Derived.BigQuiet
import Derived.BigRegion
import Derived.Deep.CutBlock
import Derived.Deep.CutRange
import Derived.Deep.QuietTactic
import Derived.Lib.Strings
import Derived.RegionTactic
import Derived.WalkKit
import Derived.WalkLawsBesides
import Derived.WalkSpells
import Derived.Test.YtlkidgilhlpjhaaGreatDoorUu
import Derived.Test.YtlkidgilhlpjhaaGreatDoorRb
namespace Go.Proofs.YtlkidgilhlpjhaaGreatDoor
open Go.RowKit


set_option maxHeartbeats 400000 in
theorem refSmall_any (c : UInt8) (w : World) :
  Calls Tryz.prog 28 #[.int .u8 (c.toNat : Int)] w fun e w' => e = .returned (.bool (small c)) /\ w' = w := by
 unfold small
 generalize c.toNat = n
 by_cases h : 97 <= n
 ·have h' : (97 : Int) <= (n : Int) := by omega
  go_enter Tryz.func28, Tryz.ntmps28
  go_wp2
  go_ret
  exact ⟨ret_bool (by first | rfl | (rw [Bool.eq_iff_iff]; first | done | (simp; done) | (simp; omega))), rfl⟩
 ·have h' : ¬ (97 : Int) <= (n : Int) := by omega
  go_enter Tryz.func28, Tryz.ntmps28
  go_wp2
  go_ret
  exact ⟨ret_bool (by first | rfl | (rw [Bool.eq_iff_iff]; first | done | (simp; done) | (simp; omega))), rfl⟩
set_option maxHeartbeats 400000 in
theorem refDigit_any (c : UInt8) (w : World) :
  Calls Tryz.prog 29 #[.int .u8 (c.toNat : Int)] w fun e w' => e = .returned (.bool (digit c)) /\ w' = w := by
 unfold digit
 generalize c.toNat = n
 by_cases h : 48 <= n
 ·have h' : (48 : Int) <= (n : Int) := by omega
  go_enter Tryz.func29, Tryz.ntmps29
  go_wp2
  go_ret
  exact ⟨ret_bool (by first | rfl | (rw [Bool.eq_iff_iff]; first | done | (simp; done) | (simp; omega))), rfl⟩
 ·have h' : ¬ (48 : Int) <= (n : Int) := by omega
  go_enter Tryz.func29, Tryz.ntmps29
  go_wp2
  go_ret
  exact ⟨ret_bool (by first | rfl | (rw [Bool.eq_iff_iff]; first | done | (simp; done) | (simp; omega))), rfl⟩

set_option maxHeartbeats 1000000 in
theorem refSingle_int (c : Int) (w : World) :
  Calls Tryz.prog 32 #[.int .u8 c] w fun e w' => e = .returned (.bool (singleB c)) /\ w' = w := by
 by_cases h : singleB c = true
 ·have h' := h; unfold singleB at h'
  simp only [Bool.or_eq_true, beq_iff_eq] at h'
  rw [h]
  rcases h' with ((((((((((((rfl | rfl) | rfl) | rfl) | rfl) | rfl) | rfl) | rfl) | rfl) | rfl) | rfl) | rfl) | rfl)
  all_goals
   clear h
   go_enter Tryz.func32, Tryz.ntmps32
   go_wp2
   go_ret
   exact ⟨rfl, rfl⟩
 ·have h' := h; unfold singleB at h'
  simp only [Bool.or_eq_true, not_or, Bool.not_eq_true] at h'
  obtain ⟨⟨⟨⟨⟨⟨⟨⟨⟨⟨⟨⟨h0, h1⟩, h2⟩, h3⟩, h4⟩, h5⟩, h6⟩, h7⟩, h8⟩, h9⟩, h10⟩, h11⟩, h12⟩ := h'; rw [Bool.not_eq_true] at h; rw [h]; clear h
  go_enter Tryz.func32, Tryz.ntmps32
  go_wp2
  go_ret
  exact ⟨rfl, rfl⟩

set_option maxHeartbeats 1000000 in
theorem refDouble_int (a b : Int) (w : World) :
  Calls Tryz.prog 31 #[.int .u8 a, .int .u8 b] w fun e w' => e = .returned (.bool (doubleB a b)) /\ w' = w := by
 cases h1 : (a == 58)
 ·cases h2 : (a == 60)
  ·cases h3 : (a == 45)
   ·cases h4 : (a == 46)
    ·go_enter Tryz.func31, Tryz.ntmps31
     go_wp2
     go_ret
     exact ⟨ret_bool (by simp [doubleB, h1, h2, h3, h4]), rfl⟩
    ·go_enter Tryz.func31, Tryz.ntmps31
     go_wp2
     go_ret
     exact ⟨ret_bool (by simp [doubleB, h1, h2, h3, h4]), rfl⟩
   ·have h4 : (a == 46) = false := by rw [beq_iff_eq] at h3; subst h3; rfl
    cases h5 : (b == 62)
    ·go_enter Tryz.func31, Tryz.ntmps31
     go_wp2
     go_ret
     exact ⟨ret_bool (by simp [doubleB, h1, h2, h3, h4, h5]), rfl⟩
    ·go_enter Tryz.func31, Tryz.ntmps31
     go_wp2
     go_ret
     exact ⟨ret_bool (by simp [doubleB, h1, h2, h3, h4, h5]), rfl⟩
  ·have h3 : (a == 45) = false := by rw [beq_iff_eq] at h2; subst h2; rfl
   have h4 : (a == 46) = false := by rw [beq_iff_eq] at h2; subst h2; rfl
   cases h5 : (b == 45)
   ·go_enter Tryz.func31, Tryz.ntmps31
    go_wp2
    go_ret
    exact ⟨ret_bool (by simp [doubleB, h1, h2, h3, h4, h5]), rfl⟩
   ·go_enter Tryz.func31, Tryz.ntmps31
    go_wp2
    go_ret
    exact ⟨ret_bool (by simp [doubleB, h1, h2, h3, h4, h5]), rfl⟩
 ·have h2 : (a == 60) = false := by rw [beq_iff_eq] at h1; subst h1; rfl
  have h3 : (a == 45) = false := by rw [beq_iff_eq] at h1; subst h1; rfl
  have h4 : (a == 46) = false := by rw [beq_iff_eq] at h1; subst h1; rfl
  cases h5 : (b == 61)
  ·go_enter Tryz.func31, Tryz.ntmps31
   go_wp2
   go_ret
   exact ⟨ret_bool (by simp [doubleB, h1, h2, h3, h4, h5]), rfl⟩
  ·go_enter Tryz.func31, Tryz.ntmps31
   go_wp2
   go_ret
   exact ⟨ret_bool (by simp [doubleB, h1, h2, h3, h4, h5]), rfl⟩

theorem refSingle_any (c : UInt8) (w : World) :
  Calls Tryz.prog 32 #[.int .u8 (c.toNat : Int)] w fun e w' => e = .returned (.bool (single c)) /\ w' = w := by
 have e : singleB (c.toNat : Int) = single c := by
  unfold singleB single
  simp only [← cast_eq]; rfl
 rw [← e]; exact refSingle_int _ w
theorem refDouble_any (a b : UInt8) (w : World) :
  Calls Tryz.prog 31 #[.int .u8 (a.toNat : Int), .int .u8 (b.toNat : Int)] w fun e w' => e = .returned (.bool (double a b)) /\ w' = w := by
 have e : doubleB (a.toNat : Int) (b.toNat : Int) = double a b := by
  unfold doubleB double
  simp only [← cast_eq]; rfl
 rw [← e]; exact refDouble_int _ _ w

set_option maxHeartbeats 1000000 in
theorem refKey_any (s : ByteArray) (w : World) (hs : s.size <= 140737488351232) (hl : ∀ c ∈ s.data.toList, not32 c = true) :
  Calls Tryz.prog 30 #[.string s] w fun e w' => e = .returned (.bool (keyB s.data.toList)) /\ w' = w := by
 have HL : Hid (∀ c ∈ s.data.toList, not32 c = true) := hl; clear hl
 go_enter Tryz.func30, Tryz.ntmps30
 go_wp2
 go_loopw [3] (fun t wr => ∃ (i : Nat), i <= 101 /\ t = .int .i64 i /\ Hid (∀ j, j < i -> ¬ hitAt s.data.toList j) /\ wr = w) (fun t _ => 101 - (intOf t).toNat)
 case atStart => exact ⟨0, Nat.zero_le _, rfl, fun j hj => by omega, rfl⟩
 case round =>
  obtain ⟨i, hi, rfl, hno, rfl⟩ := hrel
  by_cases c : i + s.size + 2 <= 101
  ·have c' : (i : Int) + (s.size : Int) + 2 <= 101 := by omega
   have R : Hid (((((⟨keysL.toArray⟩ : ByteArray).extract i (i + s.size + 2)).toList == (({ data := #[32] } : ByteArray) ++ s ++ { data := #[32] }).toList) = true) ↔ hitAt s.data.toList i) := hit_raw s i c; go_wp2_with fail
   ·rename_i hh
    go_ret
    have hk := hit_key HL.out (R.out.1 hh); have := key_len hk; rw [← Lib.size_eq] at this; exact ⟨ret_bool (by rw [hk, decide_eq_true_iff]; exact this), rfl⟩
   ·rename_i hh
    refine ⟨⟨i + 1, by omega, by go_num, fun j hj hx => ?_, trivial⟩, by simp [intOf]; omega⟩
    by_cases e : j = i
    ·subst e; have := R.out.2 hx; cases (this.symm.trans hh)
    ·exact hno.out j (by omega) hx
  ·go_wp2_with fail
   go_ret
   refine ⟨ret_bool ?_, rfl⟩
   cases hk : keyB s.data.toList
   ·rfl
   ·obtain ⟨j, h1, h2⟩ := key_hit hk; have h3 := h2.1; rw [← Lib.size_eq] at h3; exact absurd h2 (hno.out j (by omega))


theorem info64 : ∃ i0, Tryz.prog.info? 64 = some i0 /\ i0.zero = some (.agg #[.int .i64 0, .string ⟨#[]⟩, .int .i64 0, .int .i64 0]) /\ i0.size = 4 /\ i0.bytes = 40 := by
 have h := Tryz.info64
 cases e : Tryz.prog.info? 64 with
 | none => rw [e] at h; cases h
 | some i =>
  rw [e] at h
  simp only [Option.map_some, Option.some.injEq, Prod.mk.injEq] at h
  exact ⟨i, rfl, h.1, h.2.1, h.2.2⟩
set_option maxRecDepth 100000 in
set_option maxHeartbeats 1000000 in
theorem refTokens_long (s : ByteArray) (w : World) (hs : 8192 < s.size) (hm : s.size <= 140737488351232) :
  Calls Tryz.prog 13 #[.string s] w fun e w' => e = .returned (.tuple #[.slice none 0 0, .int .i64 15, .int .i64 0]) /\ w' = w := by
 have hs' : (8192 : Int) < (s.size : Int) := by omega
 go_enter Tryz.func13, Tryz.ntmps13
 go_wp2
 go_ret3
 exact ⟨rfl, rfl⟩

set_option maxRecDepth 100000 in
set_option maxHeartbeats 200000000 in
theorem refTokens_short (s : ByteArray) (w : World) (hs : s.size <= 8192) :
  Calls Tryz.prog 13 #[.string s] w fun e w' => ∃ v a b, e = .returned (.tuple #[v, .int .i64 a, .int .i64 b]) /\ TokAns w.heap.size w' v a b (lexA s.data.toList 0 0) /\ Below w.heap.size w w' := by
 obtain ⟨i0, hi0, hz0, hz1, hz2⟩ := info64; have hs' : ¬ (8192 : Int) < (s.size : Int) := by omega
 have HL : Hid (s.data.toList.length = s.size) := (Lib.size_eq s).symm
 go_enter Tryz.func13, Tryz.ntmps13
 go_wp2
 go_loopw [5, 6] (fun v t wr => ∃ (i : Nat) (ts : List Tok), i <= s.size /\ ts.length <= 1500 /\ t = .int .i64 i /\ Hid (wr.ownsRow w.heap.size 64 4 v ts.length (cellsT ts)) /\ Hid (lexA s.data.toList 0 0 = Res.app ts (lexA (s.data.toList.drop i) i ts.length)) /\ Below w.heap.size w wr) (fun _ t _ => s.size - (intOf t).toNat)
 case atStart => exact ⟨0, [], Nat.zero_le _, Nat.zero_le _, rfl, World.ownsRow_nil _ _ _ _, (app_nil _).symm, Below.refl _ _⟩
 case round =>
  obtain ⟨i, ts, hi, ht, rfl, hr, hl, hb⟩ := hrel; obtain ⟨ao, cap, hv⟩ := row_len hr.out; subst hv
  by_cases c : i < s.size
  ·have c' : (i : Int) < (s.size : Int) := by omega
   obtain ⟨ch, hch, hc⟩ := byte_at s c; have HC : Hid (s.data.toList[i]? = some ch) := hc; clear hc
   cases q0 : blank ch
   ·have bn := blank_no q0; have z32 : (((ch.toNat : Nat) : Int) == 32) = false := int_ne bn.1; have z9 : (((ch.toNat : Nat) : Int) == 9) = false := int_ne bn.2.1; have z10 : (((ch.toNat : Nat) : Int) == 10) = false := int_ne bn.2.2.1; have z13 : (((ch.toNat : Nat) : Int) == 13) = false := int_ne bn.2.2.2; clear bn
    by_cases b35 : ch.toNat = 35
    ·have z35 : (((ch.toNat : Nat) : Int) == 35) = true := int_eq b35; have NX : Hid (lexA s.data.toList 0 0 = Res.app ts (lexA (s.data.toList.drop (upTo notNl s.data.toList i)) (upTo notNl s.data.toList i) ts.length)) := by
      show _ = _
      have hln := step_len (step_remark HC.out q0 b35); rw [hl.out, lexA_skip (step_remark HC.out q0 b35), List.drop_drop, show i + (upTo notNl s.data.toList i - i) = upTo notNl s.data.toList i by omega]
     have UB : Hid (i + 1 <= upTo notNl s.data.toList i /\ upTo notNl s.data.toList i <= s.size) := by
      have hln := step_len (step_remark HC.out q0 b35); rw [List.length_drop, HL.out] at hln
      show _ /\ _
      omega
     clear b35 q0; go_wp2_with fail
     go_loopw [6] (fun t ws => ∃ (j : Nat), i <= j /\ j <= s.size /\ t = .int .i64 j /\ Hid (upTo notNl s.data.toList j = upTo notNl s.data.toList i) /\ ws = wr) (fun t _ => s.size - (intOf t).toNat)
     case atStart => exact ⟨i, Nat.le_refl _, hi, rfl, rfl, rfl⟩
     case round =>
      obtain ⟨j, hj1, hj2, rfl, hu, rfl⟩ := hrel
      by_cases d : j < s.size
      ·have d' : (j : Int) < (s.size : Int) := by omega
       obtain ⟨dh, hdh, hd⟩ := byte_at s d; have HD : Hid (s.data.toList[j]? = some dh) := hd; clear hd
       by_cases y : dh.toNat = 10
       ·have y' : (((dh.toNat : Nat) : Int) != 10) = false := by rw [bne, show (((dh.toNat : Nat) : Int) == 10) = true from int_eq y]; rfl
        have ej : Hid (upTo notNl s.data.toList i = j) := hu.out.symm.trans (upTo_stop HD.out (by unfold notNl; simp [y])); clear y; go_wp2_with fail
        go_roundw
        case rel => exact ⟨j, ts, hj2, ht, rfl, hr, by have := NX.out; rw [ej.out] at this; exact this, hb⟩
        case measure => have := UB.out; have := ej.out; simp [intOf]; omega
       ·have y' : (((dh.toNat : Nat) : Int) != 10) = true := by rw [bne, show (((dh.toNat : Nat) : Int) == 10) = false from int_ne y]; rfl
        have ej : Hid (upTo notNl s.data.toList (j + 1) = upTo notNl s.data.toList i) := (upTo_step HD.out (by unfold notNl; simp [y])).trans hu.out; clear y; go_wp2_with fail
        go_roundw
        case rel => exact ⟨j + 1, by omega, by omega, by go_num, ej, by first | rfl | trivial⟩
        case measure => simp [intOf]; omega
      ·have d' : ¬ (j : Int) < (s.size : Int) := by omega
       have ej : Hid (upTo notNl s.data.toList i = j) := hu.out.symm.trans (upTo_end (by rw [HL.out]; omega)); go_wp2_with fail
       go_roundw
       case rel => exact ⟨j, ts, hj2, ht, rfl, hr, by have := NX.out; rw [ej.out] at this; exact this, hb⟩
       case measure => have := UB.out; have := ej.out; simp [intOf]; omega
    ·have z35 : (((ch.toNat : Nat) : Int) == 35) = false := int_ne b35; obtain ⟨W0, eW⟩ : ∃ W0 : World, W0 = wr := ⟨_, rfl⟩; subst eW
     go_upto_block 4 with fail
     go_cut [6] from 13 to 179 (fun t wc => ∃ (kd v j : Nat), i + 1 <= j /\ j <= s.size /\ t = .int .i64 j /\ Hid (stepL (s.data.toList.drop i) = .tok kd v (j - i)) /\ Hid (OwnT wc W0.heap.size kd v i) /\ Below W0.heap.size W0 wc)
     case first =>
      cases q1 : small ch
      ·cases q2 : digit ch
       ·as_aux_lemma =>
         by_cases d : i + 1 < s.size
         ·have d' : (i : Int) + 1 < (s.size : Int) := by omega
          obtain ⟨dh, hdh, hd⟩ := byte_at s d; have HD : Hid (s.data.toList[i + 1]? = some dh) := hd; clear hd
          cases p : double ch dh
          ·have ONE : Hid ((s.data.toList[i + 1]?).any (double ch) = false) := by show _ = _; rw [HD.out]; exact p
           cases sg : single ch
           ·have E : Hid (lexA s.data.toList 0 0 = .err 10 i) := by
             show _ = _
             rw [hl.out, lexA_bad (by rw [drop_at HC.out]; simp) (by rw [step_one HC.out q0 b35 q1 q2 ONE.out, sg]; first | done | rfl)]; rfl
            go_wp2_with (first | (go_at_call 28; refine (refSmall_any _ _).mono ?_; rintro e w' ⟨rfl, hw⟩; subst w') | (go_at_call 29; refine (refDigit_any _ _).mono ?_; rintro e w' ⟨rfl, hw⟩; subst w') | (go_at_call 31; refine (refDouble_any _ _ _).mono ?_; rintro e w' ⟨rfl, hw⟩; subst w') | (go_at_call 32; refine (refSingle_any _ _).mono ?_; rintro e w' ⟨rfl, hw⟩; subst w'))
            go_ret3
            exact ⟨_, _, _, rfl, by rw [E.out]; exact ⟨rfl, rfl, rfl⟩, hb.alloc hb.size _⟩
           ·have STEP : Hid (stepL (s.data.toList.drop i) = .tok 4 0 1) := by
             show _ = _
             rw [step_one HC.out q0 b35 q1 q2 ONE.out, sg]; first | done | rfl
            go_wp2_with (first | (go_at_call 28; refine (refSmall_any _ _).mono ?_; rintro e w' ⟨rfl, hw⟩; subst w') | (go_at_call 29; refine (refDigit_any _ _).mono ?_; rintro e w' ⟨rfl, hw⟩; subst w') | (go_at_call 31; refine (refDouble_any _ _ _).mono ?_; rintro e w' ⟨rfl, hw⟩; subst w') | (go_at_call 32; refine (refSingle_any _ _).mono ?_; rintro e w' ⟨rfl, hw⟩; subst w'))
            go_meet
            case rel => exact ⟨4, 0, i + 1, by have := tok_len STEP.out; omega, by have := tok_len STEP.out; rw [List.length_drop, HL.out] at this; omega, by go_num, by show stepL _ = _; rw [STEP.out]; first | done | (congr 1; omega), own_new W0 4 i, (Below.refl _ _).alloc (Nat.le_refl _) _⟩
          ·have STEP : Hid (stepL (s.data.toList.drop i) = .tok 4 0 2) := step_two HC.out q0 b35 q1 q2 HD.out p
           go_wp2_with (first | (go_at_call 28; refine (refSmall_any _ _).mono ?_; rintro e w' ⟨rfl, hw⟩; subst w') | (go_at_call 29; refine (refDigit_any _ _).mono ?_; rintro e w' ⟨rfl, hw⟩; subst w') | (go_at_call 31; refine (refDouble_any _ _ _).mono ?_; rintro e w' ⟨rfl, hw⟩; subst w') | (go_at_call 32; refine (refSingle_any _ _).mono ?_; rintro e w' ⟨rfl, hw⟩; subst w'))
           go_meet
           case rel => exact ⟨4, 0, i + 2, by have := tok_len STEP.out; omega, by have := tok_len STEP.out; rw [List.length_drop, HL.out] at this; omega, by go_num, by show stepL _ = _; rw [STEP.out]; first | done | (congr 1; omega), own_new W0 4 i, (Below.refl _ _).alloc (Nat.le_refl _) _⟩
         ·have d' : ¬ (i : Int) + 1 < (s.size : Int) := by omega
          have ONE : Hid ((s.data.toList[i + 1]?).any (double ch) = false) := by show _ = _; rw [List.getElem?_eq_none (by rw [HL.out]; omega)]; rfl
          cases sg : single ch
          ·have E : Hid (lexA s.data.toList 0 0 = .err 10 i) := by
            show _ = _
            rw [hl.out, lexA_bad (by rw [drop_at HC.out]; simp) (by rw [step_one HC.out q0 b35 q1 q2 ONE.out, sg]; first | done | rfl)]; rfl
           go_wp2_with (first | (go_at_call 28; refine (refSmall_any _ _).mono ?_; rintro e w' ⟨rfl, hw⟩; subst w') | (go_at_call 29; refine (refDigit_any _ _).mono ?_; rintro e w' ⟨rfl, hw⟩; subst w') | (go_at_call 31; refine (refDouble_any _ _ _).mono ?_; rintro e w' ⟨rfl, hw⟩; subst w') | (go_at_call 32; refine (refSingle_any _ _).mono ?_; rintro e w' ⟨rfl, hw⟩; subst w'))
           go_ret3
           exact ⟨_, _, _, rfl, by rw [E.out]; exact ⟨rfl, rfl, rfl⟩, hb.alloc hb.size _⟩
          ·have STEP : Hid (stepL (s.data.toList.drop i) = .tok 4 0 1) := by
            show _ = _
            rw [step_one HC.out q0 b35 q1 q2 ONE.out, sg]; first | done | rfl
           go_wp2_with (first | (go_at_call 28; refine (refSmall_any _ _).mono ?_; rintro e w' ⟨rfl, hw⟩; subst w') | (go_at_call 29; refine (refDigit_any _ _).mono ?_; rintro e w' ⟨rfl, hw⟩; subst w') | (go_at_call 31; refine (refDouble_any _ _ _).mono ?_; rintro e w' ⟨rfl, hw⟩; subst w') | (go_at_call 32; refine (refSingle_any _ _).mono ?_; rintro e w' ⟨rfl, hw⟩; subst w'))
           go_meet
           case rel => exact ⟨4, 0, i + 1, by have := tok_len STEP.out; omega, by have := tok_len STEP.out; rw [List.length_drop, HL.out] at this; omega, by go_num, by show stepL _ = _; rw [STEP.out]; first | done | (congr 1; omega), own_new W0 4 i, (Below.refl _ _).alloc (Nat.le_refl _) _⟩
       ·as_aux_lemma =>
         go_wp2_with (first | (go_at_call 28; refine (refSmall_any _ _).mono ?_; rintro e w' ⟨rfl, hw⟩; subst w') | (go_at_call 29; refine (refDigit_any _ _).mono ?_; rintro e w' ⟨rfl, hw⟩; subst w'))
         go_loopw [6] (fun t ws => ∃ (j : Nat), i <= j /\ j <= s.size /\ t = .int .i64 j /\ Hid (upTo digit s.data.toList j = upTo digit s.data.toList i) /\ Hid (OwnT ws W0.heap.size 3 (numTo s.data.toList i j) i) /\ Below W0.heap.size W0 ws) (fun t _ => s.size - (intOf t).toNat)
         case atStart => exact ⟨i, Nat.le_refl _, hi, rfl, rfl, by rw [numTo_start]; exact own_new W0 3 i, (Below.refl _ _).alloc (Nat.le_refl _) _⟩
         case round =>
          obtain ⟨j, hj1, hj2, rfl, hu, hot, hbw⟩ := hrel; have nb := numTo_le (l := s.data.toList) (i := i) (j := j); obtain ⟨t0, t1, t2, t3⟩ := hot.out.cells; have f1 : wr.frozen? ⟨W0.heap.size, 1, none⟩ = false := hot.out.free 1; have f2 : wr.frozen? ⟨W0.heap.size, 2, none⟩ = false := hot.out.free 2; have ltT := hot.out.lt
          by_cases d : j < s.size
          ·have d' : (j : Int) < (s.size : Int) := by omega
           obtain ⟨dh, hdh, hd⟩ := byte_at s d; have HD : Hid (s.data.toList[j]? = some dh) := hd; clear hd
           cases p2 : digit dh
           ·have ej : Hid (upTo digit s.data.toList i = j) := hu.out.symm.trans (upTo_stop HD.out p2)
            cases p1 : small dh
            ·have NS : Hid ((s.data.toList[j]?).any small = false) := by show _ = _; rw [HD.out]; exact p1
             have UB : Hid (i + 1 <= j) := by
              show _ <= _
              have := upTo_step HC.out q2; have h1 := upTo_len (p := digit) (l := s.data.toList) (i := i + 1) (by rw [HL.out]; omega); rw [this, ej.out] at h1; exact h1.1
             have SN : Hid (stepL (s.data.toList.drop i) = if 9 < j - i \/ (ch.toNat = 48 /\ 1 < j - i) \/ (s.data.toList[j]?).any small = true then .bad else .tok 3 (numTo s.data.toList i j) (j - i)) := by
              have := step_num HC.out q0 b35 q1 q2; rw [ej.out] at this; exact this
             have j' : (i : Int) <= (j : Int) := by omega
             have j2 : (j : Int) <= (s.size : Int) := by omega
             have ub := UB.out
             by_cases n9 : 9 < j - i
             ·have n9' : (9 : Int) < (j : Int) - (i : Int) := by omega
              have E : Hid (lexA s.data.toList 0 0 = .err 10 i) := by
               show _ = _
               rw [hl.out, lexA_bad (by rw [drop_at HC.out]; simp) (by rw [SN.out, if_pos (Or.inl n9)])]; rfl
              go_wp2_with (first | (go_at_call 28; refine (refSmall_any _ _).mono ?_; rintro e w' ⟨rfl, hw⟩; subst w') | (go_at_call 29; refine (refDigit_any _ _).mono ?_; rintro e w' ⟨rfl, hw⟩; subst w'))
              go_ret3
              exact ⟨_, _, _, rfl, by rw [E.out]; exact ⟨rfl, rfl, rfl⟩, hb.trans (hbw.mono hb.size)⟩
             ·have n9' : ¬ (9 : Int) < (j : Int) - (i : Int) := by omega
              by_cases b48 : ch.toNat = 48
              ·have z48 : (((ch.toNat : Nat) : Int) == 48) = true := int_eq b48; have B48 : Hid (ch.toNat = 48) := b48; clear b48
               by_cases n1 : 1 < j - i
               ·have n1' : (1 : Int) < (j : Int) - (i : Int) := by omega
                have E : Hid (lexA s.data.toList 0 0 = .err 10 i) := by
                 show _ = _
                 rw [hl.out, lexA_bad (by rw [drop_at HC.out]; simp) (by rw [SN.out, if_pos (Or.inr (Or.inl ⟨B48.out, n1⟩))])]; rfl
                go_wp2_with (first | (go_at_call 28; refine (refSmall_any _ _).mono ?_; rintro e w' ⟨rfl, hw⟩; subst w') | (go_at_call 29; refine (refDigit_any _ _).mono ?_; rintro e w' ⟨rfl, hw⟩; subst w'))
                go_ret3
                exact ⟨_, _, _, rfl, by rw [E.out]; exact ⟨rfl, rfl, rfl⟩, hb.trans (hbw.mono hb.size)⟩
               ·have n1' : ¬ (1 : Int) < (j : Int) - (i : Int) := by omega
                have STEP : Hid (stepL (s.data.toList.drop i) = .tok 3 (numTo s.data.toList i j) (j - i)) := by
                 show _ = _
                 rw [SN.out, if_neg (fun h => by rcases h with h | ⟨_, h⟩ | h <;> first | exact n9 h | exact n1 h | (rw [NS.out] at h; cases h))]
                go_wp2_with (first | (go_at_call 28; refine (refSmall_any _ _).mono ?_; rintro e w' ⟨rfl, hw⟩; subst w') | (go_at_call 29; refine (refDigit_any _ _).mono ?_; rintro e w' ⟨rfl, hw⟩; subst w'))
                go_meet
                case rel => exact ⟨3, (numTo s.data.toList i j), j, by have := tok_len STEP.out; omega, by have := tok_len STEP.out; rw [List.length_drop, HL.out] at this; omega, by go_num, by show stepL _ = _; rw [STEP.out]; first | done | (congr 1; omega), hot, hbw⟩
              ·have z48 : (((ch.toNat : Nat) : Int) == 48) = false := int_ne b48; have STEP : Hid (stepL (s.data.toList.drop i) = .tok 3 (numTo s.data.toList i j) (j - i)) := by
                show _ = _
                rw [SN.out, if_neg (fun h => by rcases h with h | ⟨h, _⟩ | h <;> first | exact n9 h | exact b48 h | (rw [NS.out] at h; cases h))]
               go_wp2_with (first | (go_at_call 28; refine (refSmall_any _ _).mono ?_; rintro e w' ⟨rfl, hw⟩; subst w') | (go_at_call 29; refine (refDigit_any _ _).mono ?_; rintro e w' ⟨rfl, hw⟩; subst w'))
               go_meet
               case rel => exact ⟨3, (numTo s.data.toList i j), j, by have := tok_len STEP.out; omega, by have := tok_len STEP.out; rw [List.length_drop, HL.out] at this; omega, by go_num, by show stepL _ = _; rw [STEP.out]; first | done | (congr 1; omega), hot, hbw⟩
            ·have NS : Hid ((s.data.toList[j]?).any small = true) := by show _ = _; rw [HD.out]; exact p1
             have UB : Hid (i + 1 <= j) := by
              show _ <= _
              have := upTo_step HC.out q2; have h1 := upTo_len (p := digit) (l := s.data.toList) (i := i + 1) (by rw [HL.out]; omega); rw [this, ej.out] at h1; exact h1.1
             have SN : Hid (stepL (s.data.toList.drop i) = if 9 < j - i \/ (ch.toNat = 48 /\ 1 < j - i) \/ (s.data.toList[j]?).any small = true then .bad else .tok 3 (numTo s.data.toList i j) (j - i)) := by
              have := step_num HC.out q0 b35 q1 q2; rw [ej.out] at this; exact this
             have j' : (i : Int) <= (j : Int) := by omega
             have j2 : (j : Int) <= (s.size : Int) := by omega
             have ub := UB.out
             by_cases n9 : 9 < j - i
             ·have n9' : (9 : Int) < (j : Int) - (i : Int) := by omega
              have E : Hid (lexA s.data.toList 0 0 = .err 10 i) := by
               show _ = _
               rw [hl.out, lexA_bad (by rw [drop_at HC.out]; simp) (by rw [SN.out, if_pos (Or.inl n9)])]; rfl
              go_wp2_with (first | (go_at_call 28; refine (refSmall_any _ _).mono ?_; rintro e w' ⟨rfl, hw⟩; subst w') | (go_at_call 29; refine (refDigit_any _ _).mono ?_; rintro e w' ⟨rfl, hw⟩; subst w'))
              go_ret3
              exact ⟨_, _, _, rfl, by rw [E.out]; exact ⟨rfl, rfl, rfl⟩, hb.trans (hbw.mono hb.size)⟩
             ·have n9' : ¬ (9 : Int) < (j : Int) - (i : Int) := by omega
              by_cases b48 : ch.toNat = 48
              ·have z48 : (((ch.toNat : Nat) : Int) == 48) = true := int_eq b48; have B48 : Hid (ch.toNat = 48) := b48; clear b48
               by_cases n1 : 1 < j - i
               ·have n1' : (1 : Int) < (j : Int) - (i : Int) := by omega
                have E : Hid (lexA s.data.toList 0 0 = .err 10 i) := by
                 show _ = _
                 rw [hl.out, lexA_bad (by rw [drop_at HC.out]; simp) (by rw [SN.out, if_pos (Or.inr (Or.inl ⟨B48.out, n1⟩))])]; rfl
                go_wp2_with (first | (go_at_call 28; refine (refSmall_any _ _).mono ?_; rintro e w' ⟨rfl, hw⟩; subst w') | (go_at_call 29; refine (refDigit_any _ _).mono ?_; rintro e w' ⟨rfl, hw⟩; subst w'))
                go_ret3
                exact ⟨_, _, _, rfl, by rw [E.out]; exact ⟨rfl, rfl, rfl⟩, hb.trans (hbw.mono hb.size)⟩
               ·have n1' : ¬ (1 : Int) < (j : Int) - (i : Int) := by omega
                have E : Hid (lexA s.data.toList 0 0 = .err 10 i) := by
                 show _ = _
                 rw [hl.out, lexA_bad (by rw [drop_at HC.out]; simp) (by rw [SN.out, if_pos (Or.inr (Or.inr NS.out))])]; rfl
                go_wp2_with (first | (go_at_call 28; refine (refSmall_any _ _).mono ?_; rintro e w' ⟨rfl, hw⟩; subst w') | (go_at_call 29; refine (refDigit_any _ _).mono ?_; rintro e w' ⟨rfl, hw⟩; subst w'))
                go_ret3
                exact ⟨_, _, _, rfl, by rw [E.out]; exact ⟨rfl, rfl, rfl⟩, hb.trans (hbw.mono hb.size)⟩
              ·have z48 : (((ch.toNat : Nat) : Int) == 48) = false := int_ne b48; have E : Hid (lexA s.data.toList 0 0 = .err 10 i) := by
                show _ = _
                rw [hl.out, lexA_bad (by rw [drop_at HC.out]; simp) (by rw [SN.out, if_pos (Or.inr (Or.inr NS.out))])]; rfl
               go_wp2_with (first | (go_at_call 28; refine (refSmall_any _ _).mono ?_; rintro e w' ⟨rfl, hw⟩; subst w') | (go_at_call 29; refine (refDigit_any _ _).mono ?_; rintro e w' ⟨rfl, hw⟩; subst w'))
               go_ret3
               exact ⟨_, _, _, rfl, by rw [E.out]; exact ⟨rfl, rfl, rfl⟩, hb.trans (hbw.mono hb.size)⟩
           ·have ej : Hid (upTo digit s.data.toList (j + 1) = upTo digit s.data.toList i) := (upTo_step HD.out p2).trans hu.out; have d48 : 48 <= dh.toNat /\ dh.toNat <= 57 := by unfold digit at p2; simpa using p2
            by_cases n9 : j - i < 9
            ·have n9' : (j : Int) - (i : Int) < 9 := by omega
             have NN : Hid (numTo s.data.toList i (j + 1) = 10 * numTo s.data.toList i j + (dh.toNat - 48)) := numTo_step hj1 HD.out n9; have dd : (10 * (numTo s.data.toList i j : Nat) : Int) + (dh.toNat : Int) - 48 = ((numTo s.data.toList i (j + 1) : Nat) : Int) := by have := NN.out; omega
             obtain ⟨m, hm⟩ : ∃ m, numTo s.data.toList i (j + 1) = m := ⟨_, rfl⟩; have HM : Hid (numTo s.data.toList i (j + 1) = m) := hm; rw [hm] at dd; clear hm
             go_wp2_with (first | (go_at_call 28; refine (refSmall_any _ _).mono ?_; rintro e w' ⟨rfl, hw⟩; subst w') | (go_at_call 29; refine (refDigit_any _ _).mono ?_; rintro e w' ⟨rfl, hw⟩; subst w'))
             go_region
             go_wp2_with fail
             go_roundw
             case rel => exact ⟨j + 1, by omega, by omega, by go_num, ej, by rw [HM.out]; exact hot.out.val m, (hbw.setCell (Nat.le_refl _) _).drew⟩
             case measure => simp [intOf]; omega
            ·have n9' : ¬ (j : Int) - (i : Int) < 9 := by omega
             have NN : Hid (numTo s.data.toList i (j + 1) = numTo s.data.toList i j) := numTo_stay n9
             go_wp2_with (first | (go_at_call 28; refine (refSmall_any _ _).mono ?_; rintro e w' ⟨rfl, hw⟩; subst w') | (go_at_call 29; refine (refDigit_any _ _).mono ?_; rintro e w' ⟨rfl, hw⟩; subst w'))
             go_roundw
             case rel => exact ⟨j + 1, by omega, by omega, by go_num, ej, by rw [NN.out]; exact hot, hbw⟩
             case measure => simp [intOf]; omega
          ·have d' : ¬ (j : Int) < (s.size : Int) := by omega
           have ej : Hid (upTo digit s.data.toList i = j) := hu.out.symm.trans (upTo_end (by rw [HL.out]; omega)); have NS : Hid ((s.data.toList[j]?).any small = false) := by show _ = _; rw [List.getElem?_eq_none (by rw [HL.out]; omega)]; rfl
           have UB : Hid (i + 1 <= j) := by
            show _ <= _
            have := upTo_step HC.out q2; have h1 := upTo_len (p := digit) (l := s.data.toList) (i := i + 1) (by rw [HL.out]; omega); rw [this, ej.out] at h1; exact h1.1
           have SN : Hid (stepL (s.data.toList.drop i) = if 9 < j - i \/ (ch.toNat = 48 /\ 1 < j - i) \/ (s.data.toList[j]?).any small = true then .bad else .tok 3 (numTo s.data.toList i j) (j - i)) := by
            have := step_num HC.out q0 b35 q1 q2; rw [ej.out] at this; exact this
           have j' : (i : Int) <= (j : Int) := by omega
           have j2 : (j : Int) <= (s.size : Int) := by omega
           have ub := UB.out
           by_cases n9 : 9 < j - i
           ·have n9' : (9 : Int) < (j : Int) - (i : Int) := by omega
            have E : Hid (lexA s.data.toList 0 0 = .err 10 i) := by
             show _ = _
             rw [hl.out, lexA_bad (by rw [drop_at HC.out]; simp) (by rw [SN.out, if_pos (Or.inl n9)])]; rfl
            go_wp2_with (first | (go_at_call 28; refine (refSmall_any _ _).mono ?_; rintro e w' ⟨rfl, hw⟩; subst w') | (go_at_call 29; refine (refDigit_any _ _).mono ?_; rintro e w' ⟨rfl, hw⟩; subst w'))
            go_ret3
            exact ⟨_, _, _, rfl, by rw [E.out]; exact ⟨rfl, rfl, rfl⟩, hb.trans (hbw.mono hb.size)⟩
           ·have n9' : ¬ (9 : Int) < (j : Int) - (i : Int) := by omega
            by_cases b48 : ch.toNat = 48
            ·have z48 : (((ch.toNat : Nat) : Int) == 48) = true := int_eq b48; have B48 : Hid (ch.toNat = 48) := b48; clear b48
             by_cases n1 : 1 < j - i
             ·have n1' : (1 : Int) < (j : Int) - (i : Int) := by omega
              have E : Hid (lexA s.data.toList 0 0 = .err 10 i) := by
               show _ = _
               rw [hl.out, lexA_bad (by rw [drop_at HC.out]; simp) (by rw [SN.out, if_pos (Or.inr (Or.inl ⟨B48.out, n1⟩))])]; rfl
              go_wp2_with (first | (go_at_call 28; refine (refSmall_any _ _).mono ?_; rintro e w' ⟨rfl, hw⟩; subst w') | (go_at_call 29; refine (refDigit_any _ _).mono ?_; rintro e w' ⟨rfl, hw⟩; subst w'))
              go_ret3
              exact ⟨_, _, _, rfl, by rw [E.out]; exact ⟨rfl, rfl, rfl⟩, hb.trans (hbw.mono hb.size)⟩
             ·have n1' : ¬ (1 : Int) < (j : Int) - (i : Int) := by omega
              have STEP : Hid (stepL (s.data.toList.drop i) = .tok 3 (numTo s.data.toList i j) (j - i)) := by
               show _ = _
               rw [SN.out, if_neg (fun h => by rcases h with h | ⟨_, h⟩ | h <;> first | exact n9 h | exact n1 h | (rw [NS.out] at h; cases h))]
              go_wp2_with (first | (go_at_call 28; refine (refSmall_any _ _).mono ?_; rintro e w' ⟨rfl, hw⟩; subst w') | (go_at_call 29; refine (refDigit_any _ _).mono ?_; rintro e w' ⟨rfl, hw⟩; subst w'))
              go_meet
              case rel => exact ⟨3, (numTo s.data.toList i j), j, by have := tok_len STEP.out; omega, by have := tok_len STEP.out; rw [List.length_drop, HL.out] at this; omega, by go_num, by show stepL _ = _; rw [STEP.out]; first | done | (congr 1; omega), hot, hbw⟩
            ·have z48 : (((ch.toNat : Nat) : Int) == 48) = false := int_ne b48; have STEP : Hid (stepL (s.data.toList.drop i) = .tok 3 (numTo s.data.toList i j) (j - i)) := by
              show _ = _
              rw [SN.out, if_neg (fun h => by rcases h with h | ⟨h, _⟩ | h <;> first | exact n9 h | exact b48 h | (rw [NS.out] at h; cases h))]
             go_wp2_with (first | (go_at_call 28; refine (refSmall_any _ _).mono ?_; rintro e w' ⟨rfl, hw⟩; subst w') | (go_at_call 29; refine (refDigit_any _ _).mono ?_; rintro e w' ⟨rfl, hw⟩; subst w'))
             go_meet
             case rel => exact ⟨3, (numTo s.data.toList i j), j, by have := tok_len STEP.out; omega, by have := tok_len STEP.out; rw [List.length_drop, HL.out] at this; omega, by go_num, by show stepL _ = _; rw [STEP.out]; first | done | (congr 1; omega), hot, hbw⟩
      ·as_aux_lemma =>
        go_wp2_with (first | (go_at_call 28; refine (refSmall_any _ _).mono ?_; rintro e w' ⟨rfl, hw⟩; subst w'))
        go_loopw [6] (fun t ws => ∃ (j : Nat), i <= j /\ j <= s.size /\ t = .int .i64 j /\ Hid (upTo nameC s.data.toList j = upTo nameC s.data.toList i) /\ ws = (W0.alloc (.cells #[.int .i64 0, .string ⟨#[]⟩, .int .i64 0, .int .i64 i] 64))) (fun t _ => s.size - (intOf t).toNat)
        case atStart => exact ⟨i, Nat.le_refl _, hi, rfl, rfl, rfl⟩
        case round =>
         obtain ⟨j, hj1, hj2, rfl, hu, rfl⟩ := hrel
         by_cases d : j < s.size
         ·have d' : (j : Int) < (s.size : Int) := by omega
          obtain ⟨dh, hdh, hd⟩ := byte_at s d; have HD : Hid (s.data.toList[j]? = some dh) := hd; clear hd
          cases p1 : small dh
          ·cases p2 : digit dh
           ·have ej : Hid (upTo nameC s.data.toList i = j) := hu.out.symm.trans (upTo_stop HD.out (by unfold nameC; rw [p1, p2]; rfl)); have UB : Hid (i + 1 <= j /\ j <= s.size) := by
             show _ /\ _
             have := upTo_step HC.out (show nameC ch = true by unfold nameC; rw [q1]; rfl); have h1 := upTo_len (p := nameC) (l := s.data.toList) (i := i + 1) (by rw [HL.out]; omega); rw [this, ej.out, HL.out] at h1; exact h1
            have SN : Hid (stepL (s.data.toList.drop i) = if 16 < j - i then .bad else .tok (if keyB ((s.data.toList.drop i).take (j - i)) = true then 2 else 1) 0 (j - i)) := by
             have := step_name HC.out q0 b35 q1; rw [ej.out] at this; exact this
            have hk := refKey_any (s.extract i j) (W0.alloc (.cells #[.int .i64 1, .string ⟨#[]⟩, .int .i64 0, .int .i64 i] 64)) (by have := UB.out; rw [Lib.size_eq, Lib.extract_data, List.length_take]; omega) (by have := name_ext s i; rw [ej.out] at this; exact this); rw [Lib.extract_data] at hk; have j' : (i : Int) <= (j : Int) := by omega
            have j2 : (j : Int) <= (s.size : Int) := by omega
            cases kq : keyB ((s.data.toList.drop i).take (j - i))
            ·rw [kq] at hk
             by_cases m16 : 16 < j - i
             ·have m16' : (16 : Int) < (j : Int) - (i : Int) := by omega
              have E : Hid (lexA s.data.toList 0 0 = .err 10 i) := by
               show _ = _
               rw [hl.out, lexA_bad (by rw [drop_at HC.out]; simp) (by rw [SN.out, if_pos m16])]; rfl
              go_wp2_with (first | (go_at_call 30; refine hk.mono ?_; rintro e w' ⟨rfl, hw⟩; subst w') | (go_at_call 28; refine (refSmall_any _ _).mono ?_; rintro e w' ⟨rfl, hw⟩; subst w') | (go_at_call 29; refine (refDigit_any _ _).mono ?_; rintro e w' ⟨rfl, hw⟩; subst w'))
              go_ret3
              exact ⟨_, _, _, rfl, by rw [E.out]; exact ⟨rfl, rfl, rfl⟩, hb.alloc hb.size _⟩
             ·have m16' : ¬ (16 : Int) < (j : Int) - (i : Int) := by omega
              have STEP : Hid (stepL (s.data.toList.drop i) = .tok 1 0 (j - i)) := by
               show _ = _
               rw [SN.out, if_neg m16, kq]; rfl
              go_wp2_with (first | (go_at_call 30; refine hk.mono ?_; rintro e w' ⟨rfl, hw⟩; subst w') | (go_at_call 28; refine (refSmall_any _ _).mono ?_; rintro e w' ⟨rfl, hw⟩; subst w') | (go_at_call 29; refine (refDigit_any _ _).mono ?_; rintro e w' ⟨rfl, hw⟩; subst w'))
              go_meet
              case rel => exact ⟨1, 0, j, by have := tok_len STEP.out; omega, by have := tok_len STEP.out; rw [List.length_drop, HL.out] at this; omega, by go_num, by show stepL _ = _; rw [STEP.out]; first | done | (congr 1; omega), own_new W0 1 i, (Below.refl _ _).alloc (Nat.le_refl _) _⟩
            ·rw [kq] at hk
             by_cases m16 : 16 < j - i
             ·have m16' : (16 : Int) < (j : Int) - (i : Int) := by omega
              have E : Hid (lexA s.data.toList 0 0 = .err 10 i) := by
               show _ = _
               rw [hl.out, lexA_bad (by rw [drop_at HC.out]; simp) (by rw [SN.out, if_pos m16])]; rfl
              go_wp2_with (first | (go_at_call 30; refine hk.mono ?_; rintro e w' ⟨rfl, hw⟩; subst w') | (go_at_call 28; refine (refSmall_any _ _).mono ?_; rintro e w' ⟨rfl, hw⟩; subst w') | (go_at_call 29; refine (refDigit_any _ _).mono ?_; rintro e w' ⟨rfl, hw⟩; subst w'))
              go_ret3
              exact ⟨_, _, _, rfl, by rw [E.out]; exact ⟨rfl, rfl, rfl⟩, hb.alloc hb.size _⟩
             ·have m16' : ¬ (16 : Int) < (j : Int) - (i : Int) := by omega
              have STEP : Hid (stepL (s.data.toList.drop i) = .tok 2 0 (j - i)) := by
               show _ = _
               rw [SN.out, if_neg m16, kq]; rfl
              go_wp2_with (first | (go_at_call 30; refine hk.mono ?_; rintro e w' ⟨rfl, hw⟩; subst w') | (go_at_call 28; refine (refSmall_any _ _).mono ?_; rintro e w' ⟨rfl, hw⟩; subst w') | (go_at_call 29; refine (refDigit_any _ _).mono ?_; rintro e w' ⟨rfl, hw⟩; subst w'))
              go_meet
              case rel => exact ⟨2, 0, j, by have := tok_len STEP.out; omega, by have := tok_len STEP.out; rw [List.length_drop, HL.out] at this; omega, by go_num, by show stepL _ = _; rw [STEP.out]; first | done | (congr 1; omega), own_new W0 2 i, (Below.refl _ _).alloc (Nat.le_refl _) _⟩
           ·have ej : Hid (upTo nameC s.data.toList (j + 1) = upTo nameC s.data.toList i) := (upTo_step HD.out (by unfold nameC; rw [p1, p2]; rfl)).trans hu.out
            go_wp2_with (first | (go_at_call 28; refine (refSmall_any _ _).mono ?_; rintro e w' ⟨rfl, hw⟩; subst w') | (go_at_call 29; refine (refDigit_any _ _).mono ?_; rintro e w' ⟨rfl, hw⟩; subst w'))
            go_roundw
            case rel => exact ⟨j + 1, by omega, by omega, by go_num, ej, by first | rfl | trivial⟩
            case measure => simp [intOf]; omega
          ·have ej : Hid (upTo nameC s.data.toList (j + 1) = upTo nameC s.data.toList i) := (upTo_step HD.out (by unfold nameC; rw [p1]; rfl)).trans hu.out
           go_wp2_with (first | (go_at_call 28; refine (refSmall_any _ _).mono ?_; rintro e w' ⟨rfl, hw⟩; subst w') | (go_at_call 29; refine (refDigit_any _ _).mono ?_; rintro e w' ⟨rfl, hw⟩; subst w'))
           go_roundw
           case rel => exact ⟨j + 1, by omega, by omega, by go_num, ej, by first | rfl | trivial⟩
           case measure => simp [intOf]; omega
         ·have d' : ¬ (j : Int) < (s.size : Int) := by omega
          have ej : Hid (upTo nameC s.data.toList i = j) := hu.out.symm.trans (upTo_end (by rw [HL.out]; omega)); have UB : Hid (i + 1 <= j /\ j <= s.size) := by
           show _ /\ _
           have := upTo_step HC.out (show nameC ch = true by unfold nameC; rw [q1]; rfl); have h1 := upTo_len (p := nameC) (l := s.data.toList) (i := i + 1) (by rw [HL.out]; omega); rw [this, ej.out, HL.out] at h1; exact h1
          have SN : Hid (stepL (s.data.toList.drop i) = if 16 < j - i then .bad else .tok (if keyB ((s.data.toList.drop i).take (j - i)) = true then 2 else 1) 0 (j - i)) := by
           have := step_name HC.out q0 b35 q1; rw [ej.out] at this; exact this
          have hk := refKey_any (s.extract i j) (W0.alloc (.cells #[.int .i64 1, .string ⟨#[]⟩, .int .i64 0, .int .i64 i] 64)) (by have := UB.out; rw [Lib.size_eq, Lib.extract_data, List.length_take]; omega) (by have := name_ext s i; rw [ej.out] at this; exact this); rw [Lib.extract_data] at hk; have j' : (i : Int) <= (j : Int) := by omega
          have j2 : (j : Int) <= (s.size : Int) := by omega
          cases kq : keyB ((s.data.toList.drop i).take (j - i))
          ·rw [kq] at hk
           by_cases m16 : 16 < j - i
           ·have m16' : (16 : Int) < (j : Int) - (i : Int) := by omega
            have E : Hid (lexA s.data.toList 0 0 = .err 10 i) := by
             show _ = _
             rw [hl.out, lexA_bad (by rw [drop_at HC.out]; simp) (by rw [SN.out, if_pos m16])]; rfl
            go_wp2_with (first | (go_at_call 30; refine hk.mono ?_; rintro e w' ⟨rfl, hw⟩; subst w') | (go_at_call 28; refine (refSmall_any _ _).mono ?_; rintro e w' ⟨rfl, hw⟩; subst w') | (go_at_call 29; refine (refDigit_any _ _).mono ?_; rintro e w' ⟨rfl, hw⟩; subst w'))
            go_ret3
            exact ⟨_, _, _, rfl, by rw [E.out]; exact ⟨rfl, rfl, rfl⟩, hb.alloc hb.size _⟩
           ·have m16' : ¬ (16 : Int) < (j : Int) - (i : Int) := by omega
            have STEP : Hid (stepL (s.data.toList.drop i) = .tok 1 0 (j - i)) := by
             show _ = _
             rw [SN.out, if_neg m16, kq]; rfl
            go_wp2_with (first | (go_at_call 30; refine hk.mono ?_; rintro e w' ⟨rfl, hw⟩; subst w') | (go_at_call 28; refine (refSmall_any _ _).mono ?_; rintro e w' ⟨rfl, hw⟩; subst w') | (go_at_call 29; refine (refDigit_any _ _).mono ?_; rintro e w' ⟨rfl, hw⟩; subst w'))
            go_meet
            case rel => exact ⟨1, 0, j, by have := tok_len STEP.out; omega, by have := tok_len STEP.out; rw [List.length_drop, HL.out] at this; omega, by go_num, by show stepL _ = _; rw [STEP.out]; first | done | (congr 1; omega), own_new W0 1 i, (Below.refl _ _).alloc (Nat.le_refl _) _⟩
          ·rw [kq] at hk
           by_cases m16 : 16 < j - i
           ·have m16' : (16 : Int) < (j : Int) - (i : Int) := by omega
            have E : Hid (lexA s.data.toList 0 0 = .err 10 i) := by
             show _ = _
             rw [hl.out, lexA_bad (by rw [drop_at HC.out]; simp) (by rw [SN.out, if_pos m16])]; rfl
            go_wp2_with (first | (go_at_call 30; refine hk.mono ?_; rintro e w' ⟨rfl, hw⟩; subst w') | (go_at_call 28; refine (refSmall_any _ _).mono ?_; rintro e w' ⟨rfl, hw⟩; subst w') | (go_at_call 29; refine (refDigit_any _ _).mono ?_; rintro e w' ⟨rfl, hw⟩; subst w'))
            go_ret3
            exact ⟨_, _, _, rfl, by rw [E.out]; exact ⟨rfl, rfl, rfl⟩, hb.alloc hb.size _⟩
           ·have m16' : ¬ (16 : Int) < (j : Int) - (i : Int) := by omega
            have STEP : Hid (stepL (s.data.toList.drop i) = .tok 2 0 (j - i)) := by
             show _ = _
             rw [SN.out, if_neg m16, kq]; rfl
            go_wp2_with (first | (go_at_call 30; refine hk.mono ?_; rintro e w' ⟨rfl, hw⟩; subst w') | (go_at_call 28; refine (refSmall_any _ _).mono ?_; rintro e w' ⟨rfl, hw⟩; subst w') | (go_at_call 29; refine (refDigit_any _ _).mono ?_; rintro e w' ⟨rfl, hw⟩; subst w'))
            go_meet
            case rel => exact ⟨2, 0, j, by have := tok_len STEP.out; omega, by have := tok_len STEP.out; rw [List.length_drop, HL.out] at this; omega, by go_num, by show stepL _ = _; rw [STEP.out]; first | done | (congr 1; omega), own_new W0 2 i, (Below.refl _ _).alloc (Nat.le_refl _) _⟩
     case rest =>
      as_aux_lemma =>
       obtain ⟨kd, v, j, hj1, hj2, rfl, STEP, hot, hbw⟩ := hcut; obtain ⟨t0, t1, t2, t3⟩ := hot.out.cells; have f1 : wc.frozen? ⟨W0.heap.size, 1, none⟩ = false := hot.out.free 1; have ltT := hot.out.lt; have j' : (i : Int) <= (j : Int) := by omega
       have j2 : (j : Int) <= (s.size : Int) := by omega
       by_cases k15 : 1500 <= ts.length
       ·have k15' : (1500 : Int) <= (ts.length : Int) := by omega
        have E : Hid (lexA s.data.toList 0 0 = .err 15 i) := by show _ = _; rw [hl.out, lexA_many STEP.out i k15]; rfl
        go_wp2_with fail
        go_ret3
        exact ⟨_, _, _, rfl, by rw [E.out]; exact ⟨rfl, rfl, rfl⟩, hb.trans (hbw.mono hb.size)⟩
       ·have k15' : ¬ (1500 : Int) <= (ts.length : Int) := by omega
        have NX : Hid (lexA s.data.toList 0 0 = Res.app (ts ++ [⟨kd, (s.data.toList.drop i).take (j - i), v, i⟩]) (lexA (s.data.toList.drop j) j (ts ++ [(⟨kd, (s.data.toList.drop i).take (j - i), v, i⟩ : Tok)]).length)) := by
         show _ = _
         rw [hl.out, lexA_tok STEP.out i k15, app_cons, List.drop_drop, List.length_append, show i + (j - i) = j by omega]; rfl
        have TX : Hid (s.extract i j = ⟨((s.data.toList.drop i).take (j - i)).toArray⟩) := ext_txt s i j
        go_wp2_with (at_builtin; refine wpList_append_own _ rfl _ _ 39 rfl w.heap.size 64 i0 _ 4 40 Tryz.underlying39 hi0 hz0 hz1 hz2 rfl (by omega) _ ts.length (cellsT ts) rfl (row_num hr.out hbw) ⟨wc.heap.size, 0, none⟩ 1 1 [.int .i64 (kd : Nat), .string (s.extract i j), .int .i64 (v : Nat), .int .i64 i] rfl ?qc1 ?qc2 ?qc3 ?qc4 ?qc5 ?qc6 ?_)
        try (case qc1 => rfl)
        try
         case qc2 =>
          intro z u hz
          match z with
          | 0 => rw [Addr.add_lit]; exact cell_new (by simp) hz
          | 1 => rw [Addr.add_lit]; exact cell_new (by simp) hz
          | 2 => rw [Addr.add_lit]; exact cell_new (by simp) hz
          | 3 => rw [Addr.add_lit]; exact cell_new (by simp) hz
          | z + 4 => simp at hz
        case qc3 => first | (intro u hu; simp at hu; rcases hu with rfl | rfl | rfl | rfl <;> rfl) | exact ⟨rfl, rfl, rfl, rfl⟩ | simp [Value.oneCell']
        case qc4 => unfold maxLen; omega
        case qc5 => omega
        case qc6 => have := hb.size; have := hbw.size; simp; omega
        intro v1 w1 hown hgrow hnil; go_wp2_with fail
        go_roundw
        case rel => exact ⟨j, ts ++ [⟨kd, (s.data.toList.drop i).take (j - i), v, i⟩], hj2, by rw [List.length_append]; simp; omega, by go_num, by rw [List.length_append, cellsT_add]; show World.ownsRow _ _ _ _ _ _ (_ ++ [_, .string ⟨_⟩, _, _]); rw [← TX.out]; exact hown, NX, (((hb.trans (hbw.mono hb.size)).setCell hb.size _).alloc (by have := hb.size; have := hbw.size; simp; omega) _).grown hgrow (by have := hb.size; have := hbw.size; simp; omega) (fun k hk => row_base hr.out hk)⟩
        case measure => simp [intOf]; omega
   ·have NX : Hid (lexA s.data.toList 0 0 = Res.app ts (lexA (s.data.toList.drop (i + 1)) (i + 1) ts.length)) := by show _ = _; rw [hl.out, lexA_skip (step_blank HC.out q0), List.drop_drop]
    have q0' := q0; unfold blank at q0'
    simp only [Bool.or_eq_true, decide_eq_true_iff] at q0'
    clear q0
    by_cases b32 : ch.toNat = 32
    ·have z32 : (((ch.toNat : Nat) : Int) == 32) = true := int_eq b32; clear q0' b32; go_wp2_with fail
     go_roundw
     case rel => exact ⟨i + 1, ts, by omega, ht, by go_num, hr, NX, hb⟩
     case measure => simp [intOf]; omega
    ·by_cases b9 : ch.toNat = 9
     ·have z32 : (((ch.toNat : Nat) : Int) == 32) = false := int_ne b32; have z9 : (((ch.toNat : Nat) : Int) == 9) = true := int_eq b9; clear q0' b32 b9; go_wp2_with fail
      go_roundw
      case rel => exact ⟨i + 1, ts, by omega, ht, by go_num, hr, NX, hb⟩
      case measure => simp [intOf]; omega
     ·by_cases b10 : ch.toNat = 10
      ·have z32 : (((ch.toNat : Nat) : Int) == 32) = false := int_ne b32; have z9 : (((ch.toNat : Nat) : Int) == 9) = false := int_ne b9; have z10 : (((ch.toNat : Nat) : Int) == 10) = true := int_eq b10; clear q0' b32 b9 b10; go_wp2_with fail
       go_roundw
       case rel => exact ⟨i + 1, ts, by omega, ht, by go_num, hr, NX, hb⟩
       case measure => simp [intOf]; omega
      ·have b13 : ch.toNat = 13 := by omega
       have z32 : (((ch.toNat : Nat) : Int) == 32) = false := int_ne b32; have z9 : (((ch.toNat : Nat) : Int) == 9) = false := int_ne b9; have z10 : (((ch.toNat : Nat) : Int) == 10) = false := int_ne b10; have z13 : (((ch.toNat : Nat) : Int) == 13) = true := int_eq b13; clear q0' b32 b9 b10 b13; go_wp2_with fail
       go_roundw
       case rel => exact ⟨i + 1, ts, by omega, ht, by go_num, hr, NX, hb⟩
       case measure => simp [intOf]; omega
  ·have ei : i = s.size := by omega
   have E : Hid (lexA s.data.toList 0 0 = .ok ts) := by
    show _ = _
    rw [hl.out, List.drop_eq_nil_of_le (by rw [HL.out]; omega), lexA_nil]; show Res.ok (ts ++ []) = _; rw [List.append_nil]
   clear ei; go_wp2_with fail
   go_ret3
   exact ⟨_, _, _, rfl, by rw [E.out]; exact ⟨rfl, rfl, hr.out⟩, hb⟩
structure RefC : Prop where
 tokens : ∀ (s : ByteArray) (w : World), s.size <= 140737488351232 -> Calls Tryz.prog 13 #[.string s] w fun e w' => (∃ v a b, e = .returned (.tuple #[v, .int .i64 a, .int .i64 b]) /\ Ans w' v a b (lexT s.data.toList)) /\ Below w.heap.size w w'

theorem refC : RefC where
 tokens := fun s w hs => by
  by_cases h : 8192 < s.size
  ·refine (refTokens_long s w h hs).mono fun e w' ⟨he, hw⟩ => ?_; subst hw; refine ⟨⟨_, _, _, he, ?_⟩, Below.refl _ _⟩; have : lexT s.data.toList = .err 15 0 := by unfold lexT; rw [if_pos (by rw [← Lib.size_eq]; exact h)]
   rw [this]; exact ⟨rfl, rfl, nil_tok _⟩
  ·refine (refTokens_short s w (by omega)).mono fun e w' ⟨v, a, b, he, ha, hb⟩ => ?_; have : lexT s.data.toList = lexA s.data.toList 0 0 := by unfold lexT; rw [if_neg (by rw [← Lib.size_eq]; exact h)]; rfl
   refine ⟨⟨v, a, b, he, ?_⟩, hb⟩; rw [this]
   cases hr : lexA s.data.toList 0 0 with
   | ok ts =>
    rw [hr] at ha; have := lexA_count _ _ 0 0 ts (Nat.le_refl _) (by omega) hr; exact ⟨ha.1, ha.2.1, row_tok ha.2.2 (by omega)⟩
   | err c p =>
    rw [hr] at ha; obtain ⟨rfl, h1, h2⟩ := ha; exact ⟨h1, h2, nil_tok _⟩
theorem refTokens_at (C : RefC) (s : ByteArray) (w : World) (hs : s.size <= 140737488351232) : Calls Tryz.prog 13 #[.string s] w fun e w' => (∃ v, e = .returned (.tuple #[v, .int .i64 (lexC (lexT s.data.toList)), .int .i64 (lexP (lexT s.data.toList))]) /\ TokSl w' v (lexTs (lexT s.data.toList))) /\ Below w.heap.size w w' :=
 (C.tokens s w hs).mono fun e w' ⟨⟨v, a, b, he, ha⟩, hb⟩ => by
  obtain ⟨rfl, rfl, h⟩ := ha.parts; exact ⟨⟨v, he, h⟩, hb⟩

end Go.Proofs.YtlkidgilhlpjhaaGreatDoor
