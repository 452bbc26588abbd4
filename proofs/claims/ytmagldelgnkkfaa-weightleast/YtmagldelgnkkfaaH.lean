/-
  A row of floats that the call itself has made, in memory; the walk of the library's function that exchanges two pieces of it.
-/
import Derived.Test.YtmagldelgnkkfaaB
import Derived.Test.YtmagldelgnkkfaaG
import Derived.BigRegion
import Derived.RegionTactic
namespace Go.Proofs.Ytmagldelgnkkfaa
open Go.RowKit

/-- Block g holds the floats zs, maybe with spare room behind them, and they may be written. -/
def OwnF (w : World) (g : Nat) (zs : List Nat) : Prop := ∃ rest : List Value, w.heap[g]? = some (.cells ((zs.map fun (z : Nat) => Value.float .f64 z) ++ rest).toArray 24 (0, 0))
theorem OwnF.lt {w : World} {g : Nat} {zs : List Nat} (h : OwnF w g zs) : g < w.heap.size := by
  obtain ⟨rest, h⟩ := h; exact lt_of_block h
theorem OwnF.cell {w : World} {g : Nat} {zs : List Nat} (h : OwnF w g zs) {i : Nat} (hi : i < zs.length) : w.cell? ⟨g, i, none⟩ = some (.float .f64 (at0 zs i)) := by
  obtain ⟨rest, h⟩ := h
  unfold at0
  simp [World.cell?, h, hi, List.getElem?_append]
theorem OwnF.free {w : World} {g : Nat} {zs : List Nat} (h : OwnF w g zs) (i : Nat) : w.frozen? ⟨g, i, none⟩ = false := by
  obtain ⟨rest, h⟩ := h
  simp [World.frozen?, h]
theorem OwnF.store {w : World} {g : Nat} {zs : List Nat} (h : OwnF w g zs) {i : Nat} (hi : i < zs.length) (z : Nat) : OwnF (w.setCell ⟨g, i, none⟩ (.float .f64 z)) g (zs.set i z) := by
  obtain ⟨rest, h⟩ := h
  refine ⟨rest, ?_⟩
  rw [heap_setCell_same w g i _ 24 _ h]
  simp [List.set_append_left, hi]
theorem OwnF.drewN {w : World} {g : Nat} {zs : List Nat} (h : OwnF w g zs) (n : Nat) : OwnF (w.drewN n) g zs := h
theorem OwnF.drew {w : World} {g : Nat} {zs : List Nat} (h : OwnF w g zs) : OwnF w.drew g zs := h
theorem OwnF.swap {w : World} {g : Nat} {zs : List Nat} (h : OwnF w g zs) {i j : Nat} (hi : i < zs.length) (hj : j < zs.length) :
    OwnF ((w.setCell ⟨g, i, none⟩ (.float .f64 (at0 zs j))).setCell ⟨g, j, none⟩ (.float .f64 (at0 zs i))) g (swp zs i j) :=
  (h.store hi _).store (by simpa using hj) _
theorem OwnF.below {w w' : World} {g B : Nat} {zs : List Nat} (h : OwnF w g zs) (hb : Below B w w') (hg : g < B) : OwnF w' g zs := by
  obtain ⟨rest, h⟩ := h; exact ⟨rest, (hb.block g hg).trans h⟩

theorem grown_set {w w1 : World} {g : Nat} (h : w.grownBy w1 (some g)) (i : Nat) (v : Value) : w.grownBy (w1.setCell ⟨g, i, none⟩ v) (some g) :=
  h.trans ⟨rfl, rfl, rfl, by simp, fun j _ hj => heap_setCell_other _ _ _ _ (fun e => hj (by simp [e]))⟩
theorem grown_drew {w w1 : World} {g : Nat} (h : w.grownBy w1 (some g)) : w.grownBy w1.drew (some g) := h.trans ⟨rfl, rfl, rfl, Nat.le_refl _, fun _ _ _ => rfl⟩
theorem grown_drewN {w w1 : World} {g : Nat} (h : w.grownBy w1 (some g)) (n : Nat) : w.grownBy (w1.drewN n) (some g) := h.trans ⟨rfl, rfl, rfl, Nat.le_refl _, fun _ _ _ => rfl⟩

/-- A float is stored as it is. -/
theorem store_float (a : Addr) (b : Nat) (m : Mode) (w : World) : (store a (.float .f64 b) m).run Try.prog w = stored Try.prog w a (.float .f64 b) m := run_store Try.prog w a _ m rfl

theorem swF_zero (f : Nat → Nat) (a b x : Nat) : swF f a b 0 x = f x := by
  unfold swF; rw [if_neg (by omega), if_neg (by omega)]
theorem swF_step {zs ys : List Nat} {a b n i : Nat} (h : ∀ x, at0 ys x = swF (at0 zs) a b i x) (hab : a + n ≤ b) (hi : i < n) (hb : b + n ≤ ys.length) : ∀ x, at0 (swp ys (a + i) (b + i)) x = swF (at0 zs) a b (i + 1) x := by
  intro x
  rw [swp_at (by omega) (by omega), h, h, h]
  unfold swF
  repeat' split
  all_goals first | rfl | (exfalso; omega) | (congr 1; omega)

set_option maxHeartbeats 4000000 in
theorem swapRange_any (g : Nat) (zs : List Nat) (cap a b n : Nat) (v : Value) (w : World) (h : OwnF w g zs) (hn : zs.length ≤ 1000) (hab : a + n ≤ b) (hb : b + n ≤ zs.length) :
    Calls Try.prog 32 #[.slice (some ⟨g, 0, none⟩) zs.length cap, .int .i64 a, .int .i64 b, .int .i64 n, v] w fun e w' => e = .returned (.tuple #[]) ∧ (∃ ys, OwnF w' g ys ∧ ys.Perm zs ∧ ∀ x, at0 ys x = swF (at0 zs) a b n x) ∧ w.grownBy w' (some g) := by
  obtain ⟨N, hN⟩ : ∃ N, zs.length = N := ⟨_, rfl⟩
  have HN : Hid (zs.length = N) := hN
  rw [hN] at hn hb ⊢
  clear hN
  have sf := store_float
  go_enter Try.func32, Try.ntmps32
  go_wp2
  go_loopw [10] (fun s wr => ∃ (i : Nat) (ys : List Nat), i ≤ n ∧ s = .int .i64 i ∧ Hid (OwnF wr g ys) ∧ Hid (ys.Perm zs) ∧ Hid (∀ x, at0 ys x = swF (at0 zs) a b i x) ∧ w.grownBy wr (some g)) (fun s _ => n - (intOf s).toNat)
  case atStart => exact ⟨0, zs, Nat.zero_le _, rfl, h, List.Perm.refl _, fun x => (swF_zero _ _ _ x).symm, World.grownBy.refl _ _⟩
  case round =>
    obtain ⟨i, ys, hi, rfl, ho, hp, hs, hg⟩ := hrel
    by_cases c : i < n
    · have c' : (i : Int) < (n : Int) := by omega
      have hl : Hid (ys.length = N) := hp.out.length_eq.trans HN.out
      have c1 : wr.cell? ⟨g, a + i, none⟩ = some (.float .f64 (at0 ys (a + i))) := ho.out.cell (by have := hl.out; omega)
      have c2 : wr.cell? ⟨g, b + i, none⟩ = some (.float .f64 (at0 ys (b + i))) := ho.out.cell (by have := hl.out; omega)
      have f1 : wr.frozen? ⟨g, a + i, none⟩ = false := ho.out.free _
      have f2 : wr.frozen? ⟨g, b + i, none⟩ = false := ho.out.free _
      have e1 : (a : Int) + (i : Int) < (N : Int) := by omega
      have e2 : (b : Int) + (i : Int) < (N : Int) := by omega
      go_wp2_with fail
      go_region
      go_wp2_with fail
      go_roundw
      case rel =>
        have hab' : a + i < ys.length ∧ b + i < ys.length := by have := hl.out; omega
        exact ⟨i + 1, swp ys (a + i) (b + i), by omega, by go_num, (ho.out.swap hab'.1 hab'.2).drew, (swp_perm hab'.1 hab'.2).trans hp.out, swF_step hs.out hab c (by have := hl.out; omega), grown_drew (grown_set (grown_set hg _ _) _ _)⟩
      case measure => simp [intOf]; omega
    · go_wp2_with fail
      go_end0
      have : i = n := by omega
      subst this
      exact ⟨rfl, ⟨ys, ho, hp, hs⟩, hg⟩

theorem swF_congr {f g : Nat → Nat} (h : ∀ x, f x = g x) (a b n x : Nat) : swF f a b n x = swF g a b n x := by
  have : f = g := funext h
  rw [this]

set_option maxHeartbeats 4000000 in
theorem rotate_any (g : Nat) (zs : List Nat) (cap a m b : Nat) (v : Value) (w : World) (h : OwnF w g zs) (hn : zs.length ≤ 1000) (ham : a < m) (hmb : m < b) (hb : b ≤ zs.length) :
    Calls Try.prog 31 #[.slice (some ⟨g, 0, none⟩) zs.length cap, .int .i64 a, .int .i64 m, .int .i64 b, v] w fun e w' => e = .returned (.tuple #[]) ∧ (∃ ys, OwnF w' g ys ∧ ys.Perm zs ∧ ∀ x, at0 ys x = rotF (at0 zs) a m b x) ∧ w.grownBy w' (some g) := by
  obtain ⟨N, hN⟩ : ∃ N, zs.length = N := ⟨_, rfl⟩
  have HN : Hid (zs.length = N) := hN
  rw [hN] at hn hb ⊢
  clear hN
  go_enter Try.func31, Try.ntmps31
  go_wp2
  go_loopw [10, 11] (fun s t wr => ∃ (i j : Nat) (ys : List Nat), 0 < i ∧ i ≤ m ∧ 0 < j ∧ m + j ≤ N ∧ s = .int .i64 i ∧ t = .int .i64 j ∧ Hid (OwnF wr g ys) ∧ Hid (ys.Perm zs) ∧ Hid (∀ x, rotF (at0 ys) (m - i) m (m + j) x = rotF (at0 zs) a m b x) ∧ w.grownBy wr (some g)) (fun s t _ => (intOf s).toNat + (intOf t).toNat)
  case atStart => exact ⟨m - a, b - m, zs, by omega, by omega, by omega, by omega, by go_num, by go_num, h, List.Perm.refl _, fun x => by rw [show m - (m - a) = a by omega, show m + (b - m) = b by omega], World.grownBy.refl _ _⟩
  case round =>
    obtain ⟨i, j, ys, hi, him, hj, hjn, rfl, rfl, ho, hp, hs, hg⟩ := hrel
    have hl : Hid (ys.length = N) := hp.out.length_eq.trans HN.out
    rcases Nat.lt_trichotomy i j with c | c | c
    · have c1 : ((i : Int) != (j : Int)) = true := by rw [bne_iff_ne]; omega
      have c2 : ¬ ((j : Int) < (i : Int)) := by omega
      have hc := swapRange_any g ys cap (m - i) (m + j - i) i v wr ho.out (by have := hl.out; omega) (by omega) (by have := hl.out; omega)
      rw [hl.out, show ((m - i : Nat) : Int) = (m : Int) - (i : Int) by omega, show ((m + j - i : Nat) : Int) = (m : Int) + (j : Int) - (i : Int) by omega] at hc
      go_wp2_with (go_at_call 32; refine hc.mono ?_; rintro e w1 ⟨rfl, ⟨xs, ho1, hp1, hs1⟩, hg1⟩)
      go_roundw
      case rel =>
        exact ⟨i, j - i, xs, hi, him, by omega, by omega, by go_num, by go_num, ho1, hp1.trans hp.out, fun x => by rw [rotF_congr hs1, swF_rot_lt c him, hs.out], hg.trans hg1⟩
      case measure => simp [intOf]; omega
    · subst c
      have c1 : ((i : Int) != (i : Int)) = false := by simp
      have hc := swapRange_any g ys cap (m - i) m i v wr ho.out (by have := hl.out; omega) (by omega) (by have := hl.out; omega)
      rw [hl.out, show ((m - i : Nat) : Int) = (m : Int) - (i : Int) by omega] at hc
      go_wp2_with (go_at_call 32; refine hc.mono ?_; rintro e w1 ⟨rfl, ⟨xs, ho1, hp1, hs1⟩, hg1⟩)
      go_end0
      exact ⟨rfl, ⟨xs, ho1, hp1.trans hp.out, fun x => by rw [hs1, swF_rot_eq him, hs.out]⟩, hg.trans hg1⟩
    · have c1 : ((i : Int) != (j : Int)) = true := by rw [bne_iff_ne]; omega
      have c2 : ((j : Int) < (i : Int)) := by omega
      have hc := swapRange_any g ys cap (m - i) m j v wr ho.out (by have := hl.out; omega) (by omega) (by have := hl.out; omega)
      rw [hl.out, show ((m - i : Nat) : Int) = (m : Int) - (i : Int) by omega] at hc
      go_wp2_with (go_at_call 32; refine hc.mono ?_; rintro e w1 ⟨rfl, ⟨xs, ho1, hp1, hs1⟩, hg1⟩)
      go_roundw
      case rel =>
        exact ⟨i - j, j, xs, by omega, by omega, hj, hjn, by go_num, by go_num, ho1, hp1.trans hp.out, fun x => by rw [rotF_congr hs1, swF_rot_gt c him, hs.out], hg.trans hg1⟩
      case measure => simp [intOf]; omega
end Go.Proofs.Ytmagldelgnkkfaa
