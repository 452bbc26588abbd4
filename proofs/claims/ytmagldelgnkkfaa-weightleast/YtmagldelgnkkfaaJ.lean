/-
  The walk of the library's function that merges two rows in order: where the first has one, or the second has one.
-/
import Derived.Test.YtmagldelgnkkfaaI
namespace Go.Proofs.Ytmagldelgnkkfaa
open Go.RowKit

set_option maxRecDepth 100000 in
set_option maxHeartbeats 4000000 in
theorem symMerge_first (g : Nat) (zs : List Nat) (cap a m b : Nat) (w : World) (h : OwnF w g zs) (hf : Fits zs) (hn : zs.length ≤ 1000) (hm : m = a + 1) (hmb : m < b) (hb : b ≤ zs.length) (hs : Srt (at0 zs) m b) :
    Calls Try.prog 30 #[.slice (some ⟨g, 0, none⟩) zs.length cap, .int .i64 a, .int .i64 m, .int .i64 b, .func (.func 27) #[] #[]] w fun e w' => e = .returned (.tuple #[]) ∧ (∃ ys, OwnF w' g ys ∧ Mix zs ys a b ∧ Srt (at0 ys) a b) ∧ w.grownBy w' (some g) := by
  obtain ⟨N, hN⟩ : ∃ N, zs.length = N := ⟨_, rfl⟩
  have HN : Hid (zs.length = N) := hN
  have HF : Hid (Fits zs) := hf
  have HM : Hid (m = a + 1) := hm
  have HS : Hid (Srt (at0 zs) m b) := hs
  rw [hN] at hn hb ⊢
  have t1 : ((m : Int) - (a : Int) == 1) = true := by rw [beq_iff_eq]; omega
  have ham : a < m := by omega
  clear hN hf hm hs
  have sf := store_float
  go_enter Try.func30, Try.ntmps30
  go_wp2_with fail
  go_loopw [10, 11] (fun s t wr => ∃ (i j : Nat), s = .int .i64 i ∧ t = .int .i64 j ∧ Hid (Found (fun h => lsB (at0 zs h) (at0 zs a)) m b i j) ∧ Hid (OwnF wr g zs) ∧ w.grownBy wr (some g)) (fun s t _ => (intOf t).toNat - (intOf s).toNat)
  case atStart => exact ⟨m, b, rfl, rfl, Found.start (by omega), h, World.grownBy.refl _ _⟩
  case round =>
    obtain ⟨i, j, rfl, rfl, hd, ho, hg⟩ := hrel
    have bj : i ≤ j ∧ j ≤ b ∧ m ≤ i := ⟨hd.out.2.1, hd.out.2.2.1, hd.out.1⟩
    by_cases c : i < j
    · have c' : (i : Int) < (j : Int) := by omega
      obtain ⟨k, hk⟩ : ∃ k, (i + j) / 2 = k := ⟨_, rfl⟩
      have k1 : (i : Int) + (j : Int) < 9223372036854775808 := by omega
      have k2 : ((i : Int) + (j : Int)) / 2 = (k : Int) := by omega
      have hl : Hid (zs.length = N) := HN
      have c1 : wr.cell? ⟨g, k, none⟩ = some (.float .f64 (at0 zs k)) := ho.out.cell (by have := hl.out; omega)
      have c2 : wr.cell? ⟨g, a, none⟩ = some (.float .f64 (at0 zs a)) := ho.out.cell (by have := hl.out; omega)
      have e1 : (k : Int) < (N : Int) := by omega
      have e2 : (a : Int) < (N : Int) := by omega
      have x1 : at0 zs k < 18446744073709551616 := HF.out _
      have x2 : at0 zs a < 18446744073709551616 := HF.out _
      have mo : Hid (Mono (fun h => lsB (at0 zs h) (at0 zs a)) m b) := by have := HM.out; subst this; exact mono_first HS.out
      cases q : lsB (at0 zs k) (at0 zs a)
      · have qq := cmp_not q
        go_wp2_with fail
        go_quiet ((go_at_call 27; exact Calls.quiet_of_same (order_any _ _ (by assumption) (by assumption) _)))
        go_wp2_with fail
        go_roundw
        case rel => exact ⟨i, k, rfl, by go_num, hd.out.no mo.out (by omega) (by omega) q, ho.out.drewN _, grown_drewN hg _⟩
        case measure => simp [intOf]; omega
      · have qq := cmp_neg q
        go_wp2_with fail
        go_quiet ((go_at_call 27; exact Calls.quiet_of_same (order_any _ _ (by assumption) (by assumption) _)))
        go_wp2_with fail
        go_roundw
        case rel => exact ⟨k + 1, j, by go_num, rfl, hd.out.yes mo.out (by omega) (by omega) q, ho.out.drewN _, grown_drewN hg _⟩
        case measure => simp [intOf]; omega
    · have ij : j = i := by omega
      subst ij
      have go : Hid (Srt (rotF (at0 zs) a (a + 1) j) a b) := by have := HM.out; subst this; exact merge_first HS.out hd.out
      go_wp2_with fail
      go_loopw [13] (fun s wr => ∃ (k : Nat) (ys : List Nat), a ≤ k ∧ k + 1 ≤ j ∧ s = .int .i64 k ∧ Hid (OwnF wr g ys) ∧ Hid (Mix zs ys a b) ∧ Hid (∀ x, at0 ys x = rotF (at0 zs) a (a + 1) (k + 1) x) ∧ w.grownBy wr (some g)) (fun s _ => j - (intOf s).toNat)
      case atStart => exact ⟨a, zs, Nat.le_refl _, by have := HM.out; omega, rfl, ho, Mix.refl _ _ _, fun x => (rotF_none (Or.inr (Nat.le_refl _)) x (by omega) (Nat.le_refl _)).symm, hg⟩
      case round =>
        clear ho hg
        obtain ⟨k, ys, hk1, hk2, rfl, ho, hm, hr, hg⟩ := hrel
        have hl : Hid (ys.length = N) := hm.out.len.trans HN.out
        by_cases c : k + 1 < j
        · have c' : (k : Int) < (j : Int) - 1 := by omega
          have c1 : wr.cell? ⟨g, k + 1, none⟩ = some (.float .f64 (at0 ys (k + 1))) := ho.out.cell (by have := hl.out; omega)
          have c2 : wr.cell? ⟨g, k, none⟩ = some (.float .f64 (at0 ys k)) := ho.out.cell (by have := hl.out; omega)
          have f1 : wr.frozen? ⟨g, k + 1, none⟩ = false := ho.out.free _
          have f2 : wr.frozen? ⟨g, k, none⟩ = false := ho.out.free _
          have e1 : (k : Int) + 1 < (N : Int) := by omega
          have e2 : (k : Int) < (N : Int) := by omega
          go_wp2_with fail
          go_region
          go_wp2_with fail
          go_roundw
          case rel =>
            have l1 : k + 1 < ys.length := by have := hl.out; omega
            have l2 : k < ys.length := by omega
            exact ⟨k + 1, swp ys k (k + 1), by omega, by omega, by go_num, (ho.out.swap l2 l1).drew, hm.out.trans (Mix.swp l2 l1 (by omega) (by omega) (by omega) (by omega)), step_first hr.out hk1 l1, grown_drew (grown_set (grown_set hg _ _) _ _)⟩
          case measure => simp [intOf]; omega
        · have kj : j = k + 1 := by omega
          subst kj
          have c' : ¬ ((k : Int) < (k : Int) + 1 - 1) := by omega
          go_wp2_with fail
          first | go_end0 | refine bodyPost_ret (results_none rfl _ _ _) rfl ?_
          exact ⟨rfl, ⟨ys, ho, hm, go.out.congr fun x _ _ => hr.out x⟩, hg⟩
end Go.Proofs.Ytmagldelgnkkfaa
