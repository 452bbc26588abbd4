/-
  The walk of the library's function that puts few floats in order.
-/
import Derived.Test.YtmagldelgnkkfaaH
namespace Go.Proofs.Ytmagldelgnkkfaa
open Go.RowKit


theorem cmp_neg {x y : Nat} (h : lsB x y = true) : ordI x y = -1 := by
  have : lessB x y = true := h
  unfold ordI; rw [if_pos this]
theorem cmp_not {x y : Nat} (h : lsB x y = false) : decide (ordI x y < 0) = false := (ord_neg x y).trans h

set_option maxHeartbeats 4000000 in
theorem insertion_any (g : Nat) (zs : List Nat) (cap a b : Nat) (w : World) (h : OwnF w g zs) (hf : Fits zs) (hn : zs.length ≤ 1000) (hab : a ≤ b) (hb : b ≤ zs.length) :
    Calls Try.prog 29 #[.slice (some ⟨g, 0, none⟩) zs.length cap, .int .i64 a, .int .i64 b, .func (.func 27) #[] #[]] w fun e w' => e = .returned (.tuple #[]) ∧ (∃ ys, OwnF w' g ys ∧ Mix zs ys a b ∧ Srt (at0 ys) a b) ∧ w.grownBy w' (some g) := by
  obtain ⟨N, hN⟩ : ∃ N, zs.length = N := ⟨_, rfl⟩
  have HN : Hid (zs.length = N) := hN
  have HF : Hid (Fits zs) := hf
  rw [hN] at hn hb ⊢
  clear hN hf
  have sf := store_float
  go_enter Try.func29, Try.ntmps29
  go_wp2
  go_loopw [8] (fun s wr => ∃ (i : Nat) (ys : List Nat), a + 1 ≤ i ∧ (i ≤ b ∨ i = a + 1) ∧ s = .int .i64 i ∧ Hid (OwnF wr g ys) ∧ Hid (Mix zs ys a b) ∧ Hid (Srt (at0 ys) a i) ∧ w.grownBy wr (some g)) (fun s _ => b - (intOf s).toNat)
  case atStart => exact ⟨a + 1, zs, by omega, Or.inr rfl, by go_num, h, Mix.refl _ _ _, Srt.one _ (Nat.le_refl _), World.grownBy.refl _ _⟩
  case round =>
    obtain ⟨i, ys, hi1, hi2, rfl, ho, hm, hs, hg⟩ := hrel
    by_cases c : i < b
    · have c' : (i : Int) < (b : Int) := by omega
      go_wp2_with fail
      go_loopw [9] (fun s ws => ∃ (j : Nat) (xs : List Nat), a ≤ j ∧ j ≤ i ∧ s = .int .i64 j ∧ Hid (OwnF ws g xs) ∧ Hid (Mix zs xs a b) ∧ Hid (But (at0 xs) a i j) ∧ w.grownBy ws (some g)) (fun s _ => (intOf s).toNat)
      case atStart => exact ⟨i, ys, by omega, Nat.le_refl _, rfl, ho, hm, But.start hs.out, hg⟩
      case round =>
        clear ho hm hs hg
        obtain ⟨j, xs, hj1, hj2, rfl, ho, hm, hs, hg⟩ := hrel
        have hl : Hid (xs.length = N) := hm.out.len.trans HN.out
        have ff : Hid (Fits xs) := hm.out.fits HF.out
        by_cases d : a < j
        · obtain ⟨k, rfl⟩ : ∃ k, j = k + 1 := ⟨j - 1, by omega⟩
          have d' : (a : Int) < (k : Int) + 1 := by omega
          have c1 : wr.cell? ⟨g, k + 1, none⟩ = some (.float .f64 (at0 xs (k + 1))) := ho.out.cell (by have := hl.out; omega)
          have c2 : wr.cell? ⟨g, k, none⟩ = some (.float .f64 (at0 xs k)) := ho.out.cell (by have := hl.out; omega)
          have f1 : wr.frozen? ⟨g, k + 1, none⟩ = false := ho.out.free _
          have f2 : wr.frozen? ⟨g, k, none⟩ = false := ho.out.free _
          have e1 : (k : Int) + 1 < (N : Int) := by omega
          have e2 : (k : Int) < (N : Int) := by omega
          have x1 : at0 xs (k + 1) < 18446744073709551616 := ff.out _
          have x2 : at0 xs k < 18446744073709551616 := ff.out _
          cases q : lsB (at0 xs (k + 1)) (at0 xs k)
          · have qq := cmp_not q
            go_wp2_with fail
            go_quiet ((go_at_call 27; exact Calls.quiet_of_same (order_any _ _ (by assumption) (by assumption) _)))
            go_wp2_with fail
            go_roundw
            case rel => exact ⟨i + 1, xs, by omega, Or.inl (by omega), by go_num, ho.out.drewN _, hm, hs.out.stop d q, grown_drewN hg _⟩
            case measure => simp [intOf]; omega
          · have qq := cmp_neg q
            go_wp2_with fail
            go_quiet ((go_at_call 27; exact Calls.quiet_of_same (order_any _ _ (by assumption) (by assumption) _)))
            go_wp2_with fail
            generalize hwq : wr.drewN _ = wq
            have ho' : Hid (OwnF wq g xs) := by rw [← hwq]; exact ho.out.drewN _
            have hg' : w.grownBy wq (some g) := by rw [← hwq]; exact grown_drewN hg _
            have c1' : wq.cell? ⟨g, k + 1, none⟩ = some (.float .f64 (at0 xs (k + 1))) := ho'.out.cell (by have := hl.out; omega)
            have c2' : wq.cell? ⟨g, k, none⟩ = some (.float .f64 (at0 xs k)) := ho'.out.cell (by have := hl.out; omega)
            have f1' : wq.frozen? ⟨g, k + 1, none⟩ = false := ho'.out.free _
            have f2' : wq.frozen? ⟨g, k, none⟩ = false := ho'.out.free _
            clear hwq c1 c2 f1 f2
            go_region
            go_wp2_with fail
            go_roundw
            case rel =>
              have l1 : k + 1 < xs.length := by have := hl.out; omega
              have l2 : k < xs.length := by omega
              exact ⟨k, swp xs (k + 1) k, by omega, by omega, by go_num, (ho'.out.swap l1 l2).drew, hm.out.trans (Mix.swp l1 l2 (by omega) (by omega) (by omega) (by omega)), hs.out.step d hj2 (by have := hl.out; omega) q, grown_drew (grown_set (grown_set hg' _ _) _ _)⟩
            case measure => simp [intOf]
        · have : j = a := by omega
          subst this
          have d' : decide ((j : Int) < (j : Int)) = false := by simp
          go_wp2_with fail
          go_quiet (fail)
          go_wp2_with fail
          go_roundw
          case rel => exact ⟨i + 1, xs, by omega, Or.inl (by omega), by go_num, ho.out.drewN _, hm, hs.out.first, grown_drewN hg _⟩
          case measure => simp [intOf]; omega
    · go_wp2_with fail
      go_end0
      refine ⟨rfl, ⟨ys, ho, hm, hs.out.part (Nat.le_refl _) (by omega)⟩, hg⟩
end Go.Proofs.Ytmagldelgnkkfaa
