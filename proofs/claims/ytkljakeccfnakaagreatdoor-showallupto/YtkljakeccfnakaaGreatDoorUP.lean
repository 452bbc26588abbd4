/-
  The document's own Show.
-/
import Derived.Test.YtkljakeccfnakaaGreatDoorUO
import Derived.Test.YtkljakeccfnakaaGreatDoorTf
import Derived.Test.YtkljakeccfnakaaGreatDoorTv
import Derived.Test.YtkljakeccfnakaaGreatDoorUE
import Derived.Deep.QuietTactic
import Derived.BigQuiet
namespace Go.Proofs.YtkljakeccfnakaaGreatDoor
open Go.RowKit

/-- What the document's Show tells. -/
def ShowR (ds : List Dl) (es : List Px) (e : Ending) : Prop := e = .returned (.tuple #[.string ⟨(if progB ds es then shwP ds es else []).toArray⟩, .int .i64 (if progB ds es then 0 else 3)])
theorem shw_no {ds : List Dl} {es : List Px} (h : progB ds es = false) : ShowR ds es (.returned (.tuple #[.string ⟨#[]⟩, .int .i64 3])) := by unfold ShowR; rw [h]; rfl
theorem shw_yes {ds : List Dl} {es : List Px} {S : ByteArray} (h : progB ds es = true) (hS : S = ⟨(shwP ds es).toArray⟩) : ShowR ds es (.returned (.tuple #[.string S, .int .i64 0])) := by unfold ShowR; rw [h, hS]; rfl
theorem progB_no {ds : List Dl} {es : List Px} (h : ¬ (ds.length ≤ 8 ∧ 1 ≤ es.length ∧ es.length ≤ 3 ∧ ds.all declB = true ∧ es.all (formB 60) = true ∧ sizesD ds ≤ 16)) : progB ds es = false := by
  rw [← Bool.not_eq_true]
  exact fun hp => h (progB_parts hp)
theorem dig_le {m : Nat} (h : m ≤ 999999999) : (Lib.decDigits m).length ≤ 10 := by have := dig_len 8 m (by omega); omega
theorem itoa_nat (m : Nat) : Lib.itoa (m : Int) = Lib.decDigits m := by unfold Lib.itoa; rw [if_neg (by omega)]; rfl

set_option maxHeartbeats 2000000 in
theorem refShow_great (a1 a2 : Option Addr) (n1 c1 n2 c2 : Nat) (w : World) (h : ¬ (n1 ≤ 8 ∧ 1 ≤ n2 ∧ n2 ≤ 3)) :
    Calls Tryz.prog 12 #[.agg #[.slice a1 n1 c1, .slice a2 n2 c2]] w fun e w' => e = .returned (.tuple #[.string ⟨#[]⟩, .int .i64 3]) ∧ Below w.heap.size w w' := by
  by_cases z1 : (n1 : Int) > 8
  · clear h
    go_enter Tryz.func12, Tryz.ntmps12
    go_wp2_with fail
    go_ret2
    exact ⟨rfl, ba (Below.refl _ _)⟩
  by_cases z2 : (n2 : Int) < 1
  · clear h
    go_enter Tryz.func12, Tryz.ntmps12
    go_wp2_with fail
    go_ret2
    exact ⟨rfl, ba (Below.refl _ _)⟩
  have z3 : (n2 : Int) > 3 := by omega
  clear h
  go_enter Tryz.func12, Tryz.ntmps12
  go_wp2_with fail
  go_ret2
  exact ⟨rfl, ba (Below.refl _ _)⟩

set_option maxRecDepth 100000 in
set_option maxHeartbeats 40000000 in
theorem refShow_walk (ds : List Dl) (es : List Px) (a1 a2 : Option Addr) (n1 c1 n2 c2 hi : Nat) (w : World) (h1 : ds.length = n1) (h2 : es.length = n2) (K : Hid (ProgK2 hi w a1 a2 ds es)) (q1 : n1 ≤ 8) (q2 : 1 ≤ n2) (q3 : n2 ≤ 3) (hs : Hid (smallP ds es = true)) :
    Calls Tryz.prog 12 #[.agg #[.slice a1 n1 c1, .slice a2 n2 c2]] w fun e w' => ShowR ds es e ∧ Below w.heap.size w w' := by
  have H1 : Hid (ds.length = n1) := h1
  have H2 : Hid (es.length = n2) := h2
  clear h1 h2
  have HQ : Hid (ds.length ≤ 8 ∧ 1 ≤ es.length ∧ es.length ≤ 3) := ⟨by have := H1.out; omega, by have := H2.out; omega, by have := H2.out; omega⟩
  have z1 : ¬ (n1 : Int) > 8 := by omega
  have z2 : ¬ (n2 : Int) < 1 := by omega
  have z3 : ¬ (n2 : Int) > 3 := by omega
  go_enter Tryz.func12, Tryz.ntmps12
  go_wp2_with fail
  clear z1 z2 z3
  go_loopw [4, 5, 6] (fun sv t u wr => ∃ (i : Nat) (q : Int) (z : List UInt8), i ≤ n1 ∧ u = .int .i64 i ∧ t = .int .i64 q ∧ 0 ≤ q ∧ q ≤ 8 * i ∧ sv = .string ⟨z.toArray⟩ ∧ z.length ≤ 100 * i ∧ Hid ((ds.take i).all declB = true ∧ q = sizesD (ds.take i) ∧ z = ((ds.take i).map dclT).flatten) ∧ wr.cell? ⟨w.heap.size, 0, none⟩ = some (.slice a1 n1 c1) ∧ wr.cell? ⟨w.heap.size, 1, none⟩ = some (.slice a2 n2 c2) ∧ Hid (Below w.heap.size w wr)) (fun _ _ u _ => n1 - (intOf u).toNat)
  case atStart => exact ⟨0, 0, [], Nat.zero_le _, rfl, rfl, by omega, by omega, rfl, by simp, ⟨by simp, rfl, by simp⟩, by go_simp, by go_simp, ba (Below.refl _ _)⟩
  case round =>
    obtain ⟨i, q, z, hi', rfl, rfl, hq0, hq8, rfl, hzl, hsz, x0, x1, hb⟩ := hrel
    have lx := lt_cell x1
    by_cases c : i < n1
    · have c' : (i : Int) < (n1 : Int) := by omega
      rcases K.out.d with h0 | ⟨b, off, rfl, hR⟩
      · exact absurd H1.out (by rw [h0]; simp; omega)
      obtain ⟨d, hd⟩ : ∃ d, ds[i]? = some d := ⟨_, List.getElem?_eq_getElem (by have := H1.out; omega)⟩
      have hbl : b < w.heap.size := Nat.lt_of_lt_of_le hR.1 K.out.hhi
      obtain ⟨k0, k1, k2, k3⟩ := hR.2 i d hd
      have K0 := (hb.out.cell (p := ⟨b, _, none⟩) hbl).trans k0
      have K1 := (hb.out.cell (p := ⟨b, _, none⟩) hbl).trans k1
      have K2 := (hb.out.cell (p := ⟨b, _, none⟩) hbl).trans k2
      have K3 := (hb.out.cell (p := ⟨b, _, none⟩) hbl).trans k3
      have HD : Hid (ds[i]? = some d) := hd
      have hnl : d.name.length ≤ 140737488351232 := K.out.names d (List.mem_of_getElem? hd)
      have HN : Hid (∀ W : World, Calls Tryz.prog 27 #[.string ⟨d.name.toArray⟩] W fun e w' => e = .returned (.bool (isNameB d.name)) ∧ w' = W) := fun W => refIsName_any ⟨d.name.toArray⟩ W (by rw [Lib.size_eq]; exact hnl)
      have hbr : b < wr.heap.size := Nat.lt_of_lt_of_le hbl hb.out.size
      have FAIL : Hid (declB d = false → ShowR ds es (.returned (.tuple #[.string ⟨#[]⟩, .int .i64 3]))) := Hid.intro fun h => shw_no (progB_no fun hp => by rw [all_no HD.out h] at hp; exact absurd hp.2.2.2.1 (by decide))
      clear hR hd k0 k1 k2 k3 hnl
      obtain ⟨kd, nm, n, p⟩ := d
      simp only at K0 K1 K2 K3 HN
      cases hnm : isNameB nm with
      | false =>
        have F : Hid (ShowR ds es (.returned (.tuple #[.string ⟨#[]⟩, .int .i64 3]))) := Hid.intro (FAIL.out (by unfold declB; rw [hnm]; rfl))
        rw [hnm] at HN
        clear hnm FAIL
        go_wp2_with (go_at_call 27; refine (HN.out _).mono ?_; rintro e w3 ⟨rfl, rfl⟩)
        go_ret2
        exact ⟨F.out, ba hb.out⟩
      | true =>
        rw [hnm] at HN
        have HNM := Hid.intro hnm
        have hn16 := name_len hnm
        clear hnm
        by_cases k3 : kd = 3
        · subst k3
          by_cases r1 : n < 1
          ·
            have F : Hid (ShowR ds es (.returned (.tuple #[.string ⟨#[]⟩, .int .i64 3]))) := Hid.intro (FAIL.out (by unfold declB; rw [HNM.out]; simp; omega))
            clear FAIL
            go_wp2_with (go_at_call 27; refine (HN.out _).mono ?_; rintro e w3 ⟨rfl, rfl⟩)
            go_ret2
            exact ⟨F.out, ba hb.out⟩
          by_cases r2 : n > 8
          ·
            have F : Hid (ShowR ds es (.returned (.tuple #[.string ⟨#[]⟩, .int .i64 3]))) := Hid.intro (FAIL.out (by unfold declB; rw [HNM.out]; simp; omega))
            clear FAIL
            go_wp2_with (go_at_call 27; refine (HN.out _).mono ?_; rintro e w3 ⟨rfl, rfl⟩)
            go_ret2
            exact ⟨F.out, ba hb.out⟩
          clear FAIL
          obtain ⟨m, rfl⟩ : ∃ m : Nat, n = (m : Int) := ⟨n.toNat, by omega⟩
          have hm9 : m ≤ 8 := by omega
          have HDG := Hid.intro (fun W : World => digits_any m (by omega) W)
          have hdl := dig_le (m := m) (by omega)
          have T : Hid (z ++ ([114, 111, 119, 32] ++ nm ++ [32] ++ Lib.decDigits m ++ [10]) = ((ds.take (i + 1)).map dclT).flatten) := Hid.intro (by rw [flat_add dclT HD.out, ← hsz.out.2.2]; unfold dclT shwD; simp [itoa_nat])
          have A : Hid ((ds.take (i + 1)).all declB = true ∧ q + m = sizesD (ds.take (i + 1))) := Hid.intro ⟨all_take HD.out hsz.out.1 (by unfold declB; rw [HNM.out]; simp; omega), by rw [takeX_add HD.out, sizesD_add, ← hsz.out.2.1]; rfl⟩
          generalize Lib.decDigits m = dg at *
          go_wp2_with (go_at_call 27; refine (HN.out _).mono ?_; rintro e w3 ⟨rfl, rfl⟩)
          obtain ⟨w1, hw1⟩ : ∃ w1, w1 = wr.alloc (.cells #[.int .i64 3, .string ⟨nm.toArray⟩, .int .i64 (m : Int), .int .i64 p] 46) := ⟨_, rfl⟩
          rw [← hw1]
          have L1 := later_cell (W := w1) (a := ⟨wr.heap.size, 1, none⟩) (x := .string ⟨nm.toArray⟩) (by rw [hw1]; simp) (by rw [hw1]; go_simp)
          have HBW : Hid (Below w.heap.size w w1) := by rw [hw1]; exact ba hb.out
          have X0 : Hid (w1.cell? ⟨w.heap.size, 0, none⟩ = some (.slice (some ⟨b, off, none⟩) n1 c1)) := Hid.intro (by rw [hw1, World.cell?_alloc_old _ _ _ (by dsimp only; omega)]; exact x0)
          have X1 : Hid (w1.cell? ⟨w.heap.size, 1, none⟩ = some (.slice a2 n2 c2)) := Hid.intro (by rw [hw1, World.cell?_alloc_old _ _ _ (by dsimp only; omega)]; exact x1)
          have lw1 : wr.heap.size < w1.heap.size := by rw [hw1]; simp
          have lw2 : w.heap.size < w1.heap.size := Nat.lt_trans lx lw1
          clear hw1 x0 x1 K0 K1 K2 K3
          have ne : Nonempty (Later w1) := ⟨⟨w1, Below.refl _ _⟩⟩
          have rr1 : ¬ 9223372036854775807 < 4 + nm.length := by omega
          have rr2 : ¬ 9223372036854775807 < 4 + nm.length + 1 := by omega
          have rr3 : ¬ 9223372036854775807 < 4 + nm.length + 1 + dg.length := by omega
          have rr4 : ¬ 9223372036854775807 < 4 + nm.length + 1 + dg.length + 1 := by omega
          have rr5 : ¬ 9223372036854775807 < z.length + (4 + nm.length + 1 + dg.length + 1) := by omega
          refine wp_region_later (by kernel_rfl) (by kernel_rfl) ?_
          repeat (go_big_quiet_step ((go_at_call 28; exact calls_later (HDG.out (Later.v _)))))
          refine wpQuiet_nil ?_
          rintro wq ⟨⟨wv, hwq⟩, hE⟩; obtain rfl : wq = wv := hE
          have Y0 := (hwq.cell (p := ⟨w.heap.size, 0, none⟩) lw2).trans X0.out
          have Y1 := (hwq.cell (p := ⟨w.heap.size, 1, none⟩) lw2).trans X1.out
          have HBQ := Hid.intro (bl2 HBW.out hwq)
          have HSZ := Hid.intro hsz
          clear L1 ne hwq X0 X1 hsz
          go_wp2_with fail
          go_roundw
          case rel => exact ⟨i + 1, q + m, z ++ ([114, 111, 119, 32] ++ nm ++ [32] ++ dg ++ [10]), by omega, by go_num, by first | rfl | go_num, by omega, by omega, by simp only [bapp], by simp only [List.length_append, List.length_cons, List.length_nil]; omega, ⟨A.out.1, A.out.2, T.out⟩, Y0, Y1, HBQ.out⟩
          case measure => simp [intOf]; omega
        · by_cases r1 : n > 999999999
          ·
            have k3' : (kd == 3) = false := by rw [beq_eq_false_iff_ne]; exact k3
            have F : Hid (ShowR ds es (.returned (.tuple #[.string ⟨#[]⟩, .int .i64 3]))) := Hid.intro (FAIL.out (by unfold declB; rw [HNM.out, k3']; simp; omega))
            clear FAIL k3
            go_wp2_with (go_at_call 27; refine (HN.out _).mono ?_; rintro e w3 ⟨rfl, rfl⟩)
            go_ret2
            exact ⟨F.out, ba hb.out⟩
          by_cases r2 : n < -999999999
          ·
            have k3' : (kd == 3) = false := by rw [beq_eq_false_iff_ne]; exact k3
            have F : Hid (ShowR ds es (.returned (.tuple #[.string ⟨#[]⟩, .int .i64 3]))) := Hid.intro (FAIL.out (by unfold declB; rw [HNM.out, k3']; simp; omega))
            clear FAIL k3
            go_wp2_with (go_at_call 27; refine (HN.out _).mono ?_; rintro e w3 ⟨rfl, rfl⟩)
            go_ret2
            exact ⟨F.out, ba hb.out⟩
          by_cases k10 : kd = 1
          · subst k10
            clear FAIL k3
            by_cases s0 : n < 0
            ·
              obtain ⟨m, rfl⟩ : ∃ m : Nat, n = -(m : Int) := ⟨(-n).toNat, by omega⟩
              have HDG := Hid.intro (fun W : World => digits_any m (by omega) W)
              have hdl := dig_le (m := m) (by omega)
              have T : Hid (z ++ [99, 101, 108, 108, 32] ++ (nm ++ [32, 61, 32] ++ [45, 32] ++ Lib.decDigits m ++ [10]) = ((ds.take (i + 1)).map dclT).flatten) := Hid.intro (by rw [flat_add dclT HD.out, ← hsz.out.2.2]; unfold dclT shwD; unfold firstT; rw [if_pos s0]; simp [itoa_nat])
              have A : Hid ((ds.take (i + 1)).all declB = true ∧ q + 1 = sizesD (ds.take (i + 1))) := Hid.intro ⟨all_take HD.out hsz.out.1 (by unfold declB; rw [HNM.out]; simp; omega), by rw [takeX_add HD.out, sizesD_add, ← hsz.out.2.1]; rfl⟩
              generalize Lib.decDigits m = dg at *
              go_wp2_with (go_at_call 27; refine (HN.out _).mono ?_; rintro e w3 ⟨rfl, rfl⟩)
              obtain ⟨w1, hw1⟩ : ∃ w1, w1 = wr.alloc (.cells #[.int .i64 1, .string ⟨nm.toArray⟩, .int .i64 (-(m : Int)), .int .i64 p] 46) := ⟨_, rfl⟩
              rw [← hw1]
              have L1 := later_cell (W := w1) (a := ⟨wr.heap.size, 1, none⟩) (x := .string ⟨nm.toArray⟩) (by rw [hw1]; simp) (by rw [hw1]; go_simp)
              have HBW : Hid (Below w.heap.size w w1) := by rw [hw1]; exact ba hb.out
              have X0 : Hid (w1.cell? ⟨w.heap.size, 0, none⟩ = some (.slice (some ⟨b, off, none⟩) n1 c1)) := Hid.intro (by rw [hw1, World.cell?_alloc_old _ _ _ (by dsimp only; omega)]; exact x0)
              have X1 : Hid (w1.cell? ⟨w.heap.size, 1, none⟩ = some (.slice a2 n2 c2)) := Hid.intro (by rw [hw1, World.cell?_alloc_old _ _ _ (by dsimp only; omega)]; exact x1)
              have lw1 : wr.heap.size < w1.heap.size := by rw [hw1]; simp
              have lw2 : w.heap.size < w1.heap.size := Nat.lt_trans lx lw1
              clear hw1 x0 x1 K0 K1 K2 K3
              have ne : Nonempty (Later w1) := ⟨⟨w1, Below.refl _ _⟩⟩
              have rr0 : ¬ 9223372036854775807 < z.length + 5 := by omega
              have rr1 : ¬ 9223372036854775807 < nm.length + 3 := by omega
              have rr2 : ¬ 9223372036854775807 < nm.length + 3 + 2 := by omega
              have rr3 : ¬ 9223372036854775807 < nm.length + 3 + 2 + dg.length := by omega
              have rr4 : ¬ 9223372036854775807 < nm.length + 3 + 2 + dg.length + 1 := by omega
              have rr5 : ¬ 9223372036854775807 < z.length + 5 + (nm.length + 3 + 2 + dg.length + 1) := by omega
              refine wp_region_later (by kernel_rfl) (by kernel_rfl) ?_
              repeat (go_big_quiet_step ((go_at_call 28; exact calls_later (HDG.out (Later.v _)))))
              refine wpQuiet_nil ?_
              rintro wq ⟨⟨wv, hwq⟩, hE⟩; obtain rfl : wq = wv := hE
              have Y0 := (hwq.cell (p := ⟨w.heap.size, 0, none⟩) lw2).trans X0.out
              have Y1 := (hwq.cell (p := ⟨w.heap.size, 1, none⟩) lw2).trans X1.out
              have HBQ := Hid.intro (bl2 HBW.out hwq)
              have HSZ := Hid.intro hsz
              clear L1 ne hwq X0 X1 hsz
              go_wp2_with fail
              go_roundw
              case rel => exact ⟨i + 1, q + 1, z ++ [99, 101, 108, 108, 32] ++ (nm ++ [32, 61, 32] ++ [45, 32] ++ dg ++ [10]), by omega, by go_num, by first | rfl | go_num, by omega, by omega, by simp only [bapp], by simp only [List.length_append, List.length_cons, List.length_nil]; omega, ⟨A.out.1, A.out.2, T.out⟩, Y0, Y1, HBQ.out⟩
              case measure => simp [intOf]; omega
            obtain ⟨m, rfl⟩ : ∃ m : Nat, n = (m : Int) := ⟨n.toNat, by omega⟩
            have HDG := Hid.intro (fun W : World => digits_any m (by omega) W)
            have hdl := dig_le (m := m) (by omega)
            have T : Hid (z ++ [99, 101, 108, 108, 32] ++ (nm ++ [32, 61, 32] ++ [] ++ Lib.decDigits m ++ [10]) = ((ds.take (i + 1)).map dclT).flatten) := Hid.intro (by rw [flat_add dclT HD.out, ← hsz.out.2.2]; unfold dclT shwD; simp [firstT, s0, itoa_nat])
            have A : Hid ((ds.take (i + 1)).all declB = true ∧ q + 1 = sizesD (ds.take (i + 1))) := Hid.intro ⟨all_take HD.out hsz.out.1 (by unfold declB; rw [HNM.out]; simp; omega), by rw [takeX_add HD.out, sizesD_add, ← hsz.out.2.1]; rfl⟩
            generalize Lib.decDigits m = dg at *
            go_wp2_with (go_at_call 27; refine (HN.out _).mono ?_; rintro e w3 ⟨rfl, rfl⟩)
            obtain ⟨w1, hw1⟩ : ∃ w1, w1 = wr.alloc (.cells #[.int .i64 1, .string ⟨nm.toArray⟩, .int .i64 (m : Int), .int .i64 p] 46) := ⟨_, rfl⟩
            rw [← hw1]
            have L1 := later_cell (W := w1) (a := ⟨wr.heap.size, 1, none⟩) (x := .string ⟨nm.toArray⟩) (by rw [hw1]; simp) (by rw [hw1]; go_simp)
            have HBW : Hid (Below w.heap.size w w1) := by rw [hw1]; exact ba hb.out
            have X0 : Hid (w1.cell? ⟨w.heap.size, 0, none⟩ = some (.slice (some ⟨b, off, none⟩) n1 c1)) := Hid.intro (by rw [hw1, World.cell?_alloc_old _ _ _ (by dsimp only; omega)]; exact x0)
            have X1 : Hid (w1.cell? ⟨w.heap.size, 1, none⟩ = some (.slice a2 n2 c2)) := Hid.intro (by rw [hw1, World.cell?_alloc_old _ _ _ (by dsimp only; omega)]; exact x1)
            have lw1 : wr.heap.size < w1.heap.size := by rw [hw1]; simp
            have lw2 : w.heap.size < w1.heap.size := Nat.lt_trans lx lw1
            clear hw1 x0 x1 K0 K1 K2 K3
            have ne : Nonempty (Later w1) := ⟨⟨w1, Below.refl _ _⟩⟩
            have rr0 : ¬ 9223372036854775807 < z.length + 5 := by omega
            have rr1 : ¬ 9223372036854775807 < nm.length + 3 := by omega
            have rr2 : ¬ 9223372036854775807 < nm.length + 3 + 0 := by omega
            have rr3 : ¬ 9223372036854775807 < nm.length + 3 + 0 + dg.length := by omega
            have rr4 : ¬ 9223372036854775807 < nm.length + 3 + 0 + dg.length + 1 := by omega
            have rr5 : ¬ 9223372036854775807 < z.length + 5 + (nm.length + 3 + 0 + dg.length + 1) := by omega
            have rr6 : ¬ 9223372036854775807 < nm.length + 3 + dg.length := by omega
            have rr7 : ¬ 9223372036854775807 < nm.length + 3 + dg.length + 1 := by omega
            have rr8 : ¬ 9223372036854775807 < z.length + 5 + (nm.length + 3 + dg.length + 1) := by omega
            refine wp_region_later (by kernel_rfl) (by kernel_rfl) ?_
            repeat (go_big_quiet_step ((go_at_call 28; exact calls_later (HDG.out (Later.v _)))))
            refine wpQuiet_nil ?_
            rintro wq ⟨⟨wv, hwq⟩, hE⟩; obtain rfl : wq = wv := hE
            have Y0 := (hwq.cell (p := ⟨w.heap.size, 0, none⟩) lw2).trans X0.out
            have Y1 := (hwq.cell (p := ⟨w.heap.size, 1, none⟩) lw2).trans X1.out
            have HBQ := Hid.intro (bl2 HBW.out hwq)
            have HSZ := Hid.intro hsz
            clear L1 ne hwq X0 X1 hsz
            go_wp2_with fail
            go_roundw
            case rel => exact ⟨i + 1, q + 1, z ++ [99, 101, 108, 108, 32] ++ (nm ++ [32, 61, 32] ++ [] ++ dg ++ [10]), by omega, by go_num, by first | rfl | go_num, by omega, by omega, by simp only [bapp], by simp only [List.length_append, List.length_cons, List.length_nil]; omega, ⟨A.out.1, A.out.2, T.out⟩, Y0, Y1, HBQ.out⟩
            case measure => simp [intOf]; omega
          by_cases k20 : kd = 2
          · subst k20
            clear FAIL k3 k10
            by_cases s0 : n < 0
            ·
              obtain ⟨m, rfl⟩ : ∃ m : Nat, n = -(m : Int) := ⟨(-n).toNat, by omega⟩
              have HDG := Hid.intro (fun W : World => digits_any m (by omega) W)
              have hdl := dig_le (m := m) (by omega)
              have T : Hid (z ++ [97, 116, 111, 109, 32] ++ (nm ++ [32, 61, 32] ++ [45, 32] ++ Lib.decDigits m ++ [10]) = ((ds.take (i + 1)).map dclT).flatten) := Hid.intro (by rw [flat_add dclT HD.out, ← hsz.out.2.2]; unfold dclT shwD; unfold firstT; rw [if_pos s0]; simp [itoa_nat])
              have A : Hid ((ds.take (i + 1)).all declB = true ∧ q + 1 = sizesD (ds.take (i + 1))) := Hid.intro ⟨all_take HD.out hsz.out.1 (by unfold declB; rw [HNM.out]; simp; omega), by rw [takeX_add HD.out, sizesD_add, ← hsz.out.2.1]; rfl⟩
              generalize Lib.decDigits m = dg at *
              go_wp2_with (go_at_call 27; refine (HN.out _).mono ?_; rintro e w3 ⟨rfl, rfl⟩)
              obtain ⟨w1, hw1⟩ : ∃ w1, w1 = wr.alloc (.cells #[.int .i64 2, .string ⟨nm.toArray⟩, .int .i64 (-(m : Int)), .int .i64 p] 46) := ⟨_, rfl⟩
              rw [← hw1]
              have L1 := later_cell (W := w1) (a := ⟨wr.heap.size, 1, none⟩) (x := .string ⟨nm.toArray⟩) (by rw [hw1]; simp) (by rw [hw1]; go_simp)
              have HBW : Hid (Below w.heap.size w w1) := by rw [hw1]; exact ba hb.out
              have X0 : Hid (w1.cell? ⟨w.heap.size, 0, none⟩ = some (.slice (some ⟨b, off, none⟩) n1 c1)) := Hid.intro (by rw [hw1, World.cell?_alloc_old _ _ _ (by dsimp only; omega)]; exact x0)
              have X1 : Hid (w1.cell? ⟨w.heap.size, 1, none⟩ = some (.slice a2 n2 c2)) := Hid.intro (by rw [hw1, World.cell?_alloc_old _ _ _ (by dsimp only; omega)]; exact x1)
              have lw1 : wr.heap.size < w1.heap.size := by rw [hw1]; simp
              have lw2 : w.heap.size < w1.heap.size := Nat.lt_trans lx lw1
              clear hw1 x0 x1 K0 K1 K2 K3
              have ne : Nonempty (Later w1) := ⟨⟨w1, Below.refl _ _⟩⟩
              have rr0 : ¬ 9223372036854775807 < z.length + 5 := by omega
              have rr1 : ¬ 9223372036854775807 < nm.length + 3 := by omega
              have rr2 : ¬ 9223372036854775807 < nm.length + 3 + 2 := by omega
              have rr3 : ¬ 9223372036854775807 < nm.length + 3 + 2 + dg.length := by omega
              have rr4 : ¬ 9223372036854775807 < nm.length + 3 + 2 + dg.length + 1 := by omega
              have rr5 : ¬ 9223372036854775807 < z.length + 5 + (nm.length + 3 + 2 + dg.length + 1) := by omega
              refine wp_region_later (by kernel_rfl) (by kernel_rfl) ?_
              repeat (go_big_quiet_step ((go_at_call 28; exact calls_later (HDG.out (Later.v _)))))
              refine wpQuiet_nil ?_
              rintro wq ⟨⟨wv, hwq⟩, hE⟩; obtain rfl : wq = wv := hE
              have Y0 := (hwq.cell (p := ⟨w.heap.size, 0, none⟩) lw2).trans X0.out
              have Y1 := (hwq.cell (p := ⟨w.heap.size, 1, none⟩) lw2).trans X1.out
              have HBQ := Hid.intro (bl2 HBW.out hwq)
              have HSZ := Hid.intro hsz
              clear L1 ne hwq X0 X1 hsz
              go_wp2_with fail
              go_roundw
              case rel => exact ⟨i + 1, q + 1, z ++ [97, 116, 111, 109, 32] ++ (nm ++ [32, 61, 32] ++ [45, 32] ++ dg ++ [10]), by omega, by go_num, by first | rfl | go_num, by omega, by omega, by simp only [bapp], by simp only [List.length_append, List.length_cons, List.length_nil]; omega, ⟨A.out.1, A.out.2, T.out⟩, Y0, Y1, HBQ.out⟩
              case measure => simp [intOf]; omega
            obtain ⟨m, rfl⟩ : ∃ m : Nat, n = (m : Int) := ⟨n.toNat, by omega⟩
            have HDG := Hid.intro (fun W : World => digits_any m (by omega) W)
            have hdl := dig_le (m := m) (by omega)
            have T : Hid (z ++ [97, 116, 111, 109, 32] ++ (nm ++ [32, 61, 32] ++ [] ++ Lib.decDigits m ++ [10]) = ((ds.take (i + 1)).map dclT).flatten) := Hid.intro (by rw [flat_add dclT HD.out, ← hsz.out.2.2]; unfold dclT shwD; simp [firstT, s0, itoa_nat])
            have A : Hid ((ds.take (i + 1)).all declB = true ∧ q + 1 = sizesD (ds.take (i + 1))) := Hid.intro ⟨all_take HD.out hsz.out.1 (by unfold declB; rw [HNM.out]; simp; omega), by rw [takeX_add HD.out, sizesD_add, ← hsz.out.2.1]; rfl⟩
            generalize Lib.decDigits m = dg at *
            go_wp2_with (go_at_call 27; refine (HN.out _).mono ?_; rintro e w3 ⟨rfl, rfl⟩)
            obtain ⟨w1, hw1⟩ : ∃ w1, w1 = wr.alloc (.cells #[.int .i64 2, .string ⟨nm.toArray⟩, .int .i64 (m : Int), .int .i64 p] 46) := ⟨_, rfl⟩
            rw [← hw1]
            have L1 := later_cell (W := w1) (a := ⟨wr.heap.size, 1, none⟩) (x := .string ⟨nm.toArray⟩) (by rw [hw1]; simp) (by rw [hw1]; go_simp)
            have HBW : Hid (Below w.heap.size w w1) := by rw [hw1]; exact ba hb.out
            have X0 : Hid (w1.cell? ⟨w.heap.size, 0, none⟩ = some (.slice (some ⟨b, off, none⟩) n1 c1)) := Hid.intro (by rw [hw1, World.cell?_alloc_old _ _ _ (by dsimp only; omega)]; exact x0)
            have X1 : Hid (w1.cell? ⟨w.heap.size, 1, none⟩ = some (.slice a2 n2 c2)) := Hid.intro (by rw [hw1, World.cell?_alloc_old _ _ _ (by dsimp only; omega)]; exact x1)
            have lw1 : wr.heap.size < w1.heap.size := by rw [hw1]; simp
            have lw2 : w.heap.size < w1.heap.size := Nat.lt_trans lx lw1
            clear hw1 x0 x1 K0 K1 K2 K3
            have ne : Nonempty (Later w1) := ⟨⟨w1, Below.refl _ _⟩⟩
            have rr0 : ¬ 9223372036854775807 < z.length + 5 := by omega
            have rr1 : ¬ 9223372036854775807 < nm.length + 3 := by omega
            have rr2 : ¬ 9223372036854775807 < nm.length + 3 + 0 := by omega
            have rr3 : ¬ 9223372036854775807 < nm.length + 3 + 0 + dg.length := by omega
            have rr4 : ¬ 9223372036854775807 < nm.length + 3 + 0 + dg.length + 1 := by omega
            have rr5 : ¬ 9223372036854775807 < z.length + 5 + (nm.length + 3 + 0 + dg.length + 1) := by omega
            have rr6 : ¬ 9223372036854775807 < nm.length + 3 + dg.length := by omega
            have rr7 : ¬ 9223372036854775807 < nm.length + 3 + dg.length + 1 := by omega
            have rr8 : ¬ 9223372036854775807 < z.length + 5 + (nm.length + 3 + dg.length + 1) := by omega
            refine wp_region_later (by kernel_rfl) (by kernel_rfl) ?_
            repeat (go_big_quiet_step ((go_at_call 28; exact calls_later (HDG.out (Later.v _)))))
            refine wpQuiet_nil ?_
            rintro wq ⟨⟨wv, hwq⟩, hE⟩; obtain rfl : wq = wv := hE
            have Y0 := (hwq.cell (p := ⟨w.heap.size, 0, none⟩) lw2).trans X0.out
            have Y1 := (hwq.cell (p := ⟨w.heap.size, 1, none⟩) lw2).trans X1.out
            have HBQ := Hid.intro (bl2 HBW.out hwq)
            have HSZ := Hid.intro hsz
            clear L1 ne hwq X0 X1 hsz
            go_wp2_with fail
            go_roundw
            case rel => exact ⟨i + 1, q + 1, z ++ [97, 116, 111, 109, 32] ++ (nm ++ [32, 61, 32] ++ [] ++ dg ++ [10]), by omega, by go_num, by first | rfl | go_num, by omega, by omega, by simp only [bapp], by simp only [List.length_append, List.length_cons, List.length_nil]; omega, ⟨A.out.1, A.out.2, T.out⟩, Y0, Y1, HBQ.out⟩
            case measure => simp [intOf]; omega
          have k1' : (kd != 1) = true := by rw [bne_iff_ne]; exact k10
          have k2' : (kd != 2) = true := by rw [bne_iff_ne]; exact k20
          have k3' : (kd == 3) = false := by rw [beq_eq_false_iff_ne]; exact k3
          have F : Hid (ShowR ds es (.returned (.tuple #[.string ⟨#[]⟩, .int .i64 3]))) := Hid.intro (FAIL.out (by unfold declB; rw [HNM.out, k3', show (kd == 1) = false from by rw [beq_eq_false_iff_ne]; exact k10, show (kd == 2) = false from by rw [beq_eq_false_iff_ne]; exact k20]; rfl))
          clear FAIL k3 k10 k20
          go_wp2_with (go_at_call 27; refine (HN.out _).mono ?_; rintro e w3 ⟨rfl, rfl⟩)
          go_ret2
          exact ⟨F.out, ba hb.out⟩
    · have c' : ¬ (i : Int) < (n1 : Int) := by omega
      have A1 : Hid (ds.all declB = true ∧ q = sizesD ds ∧ z = (ds.map dclT).flatten) := by
        have := hsz.out
        have e : ds.take i = ds := List.take_of_length_le (by have := H1.out; omega)
        rw [e] at this
        exact this
      have hzl8 : z.length ≤ 800 := by omega
      clear hsz hzl
      by_cases l16 : q > 16
      · have F : Hid (ShowR ds es (.returned (.tuple #[.string ⟨#[]⟩, .int .i64 3]))) := Hid.intro (shw_no (progB_no fun hp => by have := hp.2.2.2.2.2; have := A1.out.2.1; omega))
        go_wp2_with fail
        go_ret2
        exact ⟨F.out, hb.out⟩
      go_wp2_with fail
      go_loopw [4, 10] (fun sv u wr => ∃ (i : Nat) (y : List UInt8), i ≤ n2 ∧ u = .int .i64 i ∧ sv = .string ⟨y.toArray⟩ ∧ y.length ≤ 1000 + 500000 * i ∧ Hid ((es.take i).all (formB 60) = true ∧ y = z ++ ((es.take i).map domT).flatten) ∧ wr.cell? ⟨w.heap.size, 1, none⟩ = some (.slice a2 n2 c2) ∧ Hid (Below w.heap.size w wr)) (fun _ u _ => n2 - (intOf u).toNat)
      case atStart => exact ⟨0, z, Nat.zero_le _, rfl, rfl, by omega, by simp [Hid], x1, hb.out⟩
      clear hb x0 x1 lx c c' hi'
      case round =>
        obtain ⟨i, y, hi', rfl, rfl, hyl, hs2, x1, hb⟩ := hrel
        have lx := lt_cell x1
        by_cases c : i < n2
        · have c' : (i : Int) < (n2 : Int) := by omega
          rcases K.out.e with h0 | ⟨b, off, rfl, hR⟩
          · exact absurd H2.out (by rw [h0]; simp; omega)
          obtain ⟨d, hd⟩ : ∃ d, es[i]? = some d := ⟨_, List.getElem?_eq_getElem (by have := H2.out; omega)⟩
          have hbl : b < w.heap.size := Nat.lt_of_lt_of_le hR.1 K.out.hhi
          obtain ⟨ka, cp2, hkc, hky⟩ := hR.2 i d hd
          obtain ⟨HK0, HK1, HK2, HK3, HK4, HK5⟩ := hkc.keep hb.out hbl
          have hsm : deepX d ≤ 100 ∧ szX d ≤ 2000 ∧ shortX d = true := by
            have h1 := hs.out
            unfold smallP at h1
            rw [Bool.and_eq_true] at h1
            have h2 := List.all_eq_true.1 h1.2 d (List.mem_of_getElem? hd)
            unfold smallX at h2
            simp only [Bool.and_eq_true, decide_eq_true_iff] at h2
            exact ⟨h2.1.1, h2.1.2, h2.2⟩
          have HDP : Hid (∀ W : World, Below w.heap.size w W → Calls Tryz.prog 20 #[.agg #[.int .i64 d.kind, .string ⟨d.text.toArray⟩, .string ⟨d.other.toArray⟩, .int .i64 d.n, .int .i64 d.pl, .slice ka d.kids.length cp2]] W fun e w' => e = .returned (.int .i64 (deepX d : Nat)) ∧ Below W.heap.size W w') := Hid.intro fun W hW => xdeep_any (szX d) d _ hi W (Nat.le_refl _) (Nat.le_trans K.out.hhi hW.size) (hky.keep (hW.mono K.out.hhi)) (by omega)
          have HTX : Hid (∀ W : World, Below w.heap.size w W → Calls Tryz.prog 29 #[.agg #[.int .i64 d.kind, .string ⟨d.text.toArray⟩, .string ⟨d.other.toArray⟩, .int .i64 d.n, .int .i64 d.pl, .slice ka d.kids.length cp2]] W fun e w' => TxtR d e ∧ Below W.heap.size W w') := Hid.intro fun W hW => refText_any (szX d) d _ hi W (Nat.le_refl _) (Nat.le_trans K.out.hhi hW.size) (hky.keep (hW.mono K.out.hhi)) hsm.2.2 hsm.2.1
          have HY : Hid (es[i]? = some d) := hd
          have hbr : b < wr.heap.size := Nat.lt_of_lt_of_le hbl hb.out.size
          have FAIL : Hid (formB 60 d = false → ShowR ds es (.returned (.tuple #[.string ⟨#[]⟩, .int .i64 3]))) := Hid.intro fun h => shw_no (progB_no fun hp => by rw [all_no HY.out h] at hp; exact absurd hp.2.2.2.2.1 (by decide))
          have HSM := Hid.intro hsm
          have hdp : deepX d ≤ 100 := hsm.1
          clear hkc hky hd hR hsm
          obtain ⟨dp, hdpe⟩ : ∃ dp, deepX d = dp := ⟨_, rfl⟩
          rw [hdpe] at HDP hdp
          have HDE := Hid.intro hdpe
          clear hdpe
          generalize d.kids.length = yl at *
          by_cases d60 : (dp : Int) > 60
          · have F : Hid (ShowR ds es (.returned (.tuple #[.string ⟨#[]⟩, .int .i64 3]))) := Hid.intro (FAIL.out (by unfold formB; rw [HDE.out, decide_eq_false (by omega), Bool.and_false]))
            clear FAIL
            go_wp2_with (go_at_call 20; refine (HDP.out _ hb.out).mono ?_; rintro e w3 ⟨rfl, hb3⟩)
            go_ret2
            exact ⟨F.out, bl2 hb.out hb3⟩
          go_wp2_with fail
          refine (HDP.out _ hb.out).mono ?_
          rintro e w3 ⟨rfl, hb3⟩
          have B3 : Hid (Below w.heap.size w w3) := Hid.intro (bl2 hb.out hb3)
          have hbr3 : b < w3.heap.size := Nat.lt_of_lt_of_le hbr hb3.size
          have J0 := (hb3.cell (p := ⟨b, _, none⟩) hbr).trans HK0
          have J1 := (hb3.cell (p := ⟨b, _, none⟩) hbr).trans HK1
          have J2 := (hb3.cell (p := ⟨b, _, none⟩) hbr).trans HK2
          have J3 := (hb3.cell (p := ⟨b, _, none⟩) hbr).trans HK3
          have J4 := (hb3.cell (p := ⟨b, _, none⟩) hbr).trans HK4
          have J5 := (hb3.cell (p := ⟨b, _, none⟩) hbr).trans HK5
          have Y1 := (hb3.cell (p := ⟨w.heap.size, 1, none⟩) lx).trans x1
          have ly := lt_cell Y1
          clear hb3 hb HK0 HK1 HK2 HK3 HK4 HK5 x1 lx hbr HDP
          go_wp2_with fail
          refine (HTX.out _ B3.out).mono ?_
          rintro e w4 ⟨⟨s, g, rfl, hg, hgs, hsl⟩, hb4⟩
          have B4 : Hid (Below w.heap.size w w4) := Hid.intro (bl2 B3.out hb4)
          have X4 := (hb4.cell (p := ⟨w.heap.size, 1, none⟩) ly).trans Y1
          clear hb4 J0 J1 J2 J3 J4 J5 Y1 ly hbr3
          cases g with
          | false =>
            have F : Hid (ShowR ds es (.returned (.tuple #[.string ⟨#[]⟩, .int .i64 3]))) := Hid.intro (FAIL.out (by unfold formB; rw [← hg]; rfl))
            clear FAIL hg hgs
            go_wp2_with fail
            go_ret2
            exact ⟨F.out, B4.out⟩
          | true =>
            clear FAIL
            have A : Hid ((es.take (i + 1)).all (formB 60) = true) := Hid.intro (all_take HY.out hs2.out.1 (by unfold formB; rw [← hg, HDE.out, decide_eq_true (by omega)]; rfl))
            have T : Hid (y ++ ([100, 111, 109, 97, 105, 110, 32] ++ s ++ [32, 101, 110, 100, 10]) = z ++ ((es.take (i + 1)).map domT).flatten) := Hid.intro (by rw [flat_add domT HY.out, hs2.out.2, hgs rfl]; unfold domT; simp)
            have hsl2 : s.length ≤ 400000 := by rw [hgs rfl]; have h1 := shw_sz hg.symm; have := HSM.out.2.1; omega
            clear hg hgs hsl
            go_wp2_with fail
            go_roundw
            case rel => exact ⟨i + 1, _, by omega, by go_num, by simp only [bapp] <;> rfl, by simp only [List.length_append, List.length_cons, List.length_nil]; omega, ⟨A.out, T.out⟩, X4, B4.out⟩
            case measure => simp [intOf]; omega
        · have c' : ¬ (i : Int) < (n2 : Int) := by omega
          have F : Hid (progB ds es = true ∧ y = shwP ds es) := by
            have := hs2.out
            have e : es.take i = es := List.take_of_length_le (by have := H2.out; omega)
            rw [e] at this
            exact ⟨progB_of HQ.out.1 HQ.out.2.1 HQ.out.2.2 A1.out.1 this.1 (by have := A1.out.2.1; omega), by rw [shwP_eq, this.2, A1.out.2.2]⟩
          go_wp2_with fail
          go_ret2
          exact ⟨shw_yes F.out.1 (by rw [F.out.2]), hb.out⟩
/-- The document's Show. -/
theorem refShow_any (ds : List Dl) (es : List Px) (v : Value) (hi : Nat) (w : World) (h : PV hi w v ds es) (hhi : hi ≤ w.heap.size) (hs : smallP ds es = true) :
    Calls Tryz.prog 12 #[v] w fun e w' => ShowR ds es e ∧ Below w.heap.size w w' := by
  obtain ⟨a1, c1, a2, c2, rfl, hd, he⟩ := h
  by_cases g : ds.length ≤ 8 ∧ 1 ≤ es.length ∧ es.length ≤ 3
  · exact refShow_walk ds es a1 a2 ds.length c1 es.length c2 hi w rfl rfl ⟨hd.row, he.row, hd.names, hhi⟩ g.1 g.2.1 g.2.2 hs
  · refine (refShow_great a1 a2 ds.length c1 es.length c2 w g).mono ?_
    rintro e w' ⟨rfl, hb⟩
    exact ⟨shw_no (progB_no fun hp => g ⟨hp.1, hp.2.1, hp.2.2.1⟩), hb⟩
end Go.Proofs.YtkljakeccfnakaaGreatDoor
