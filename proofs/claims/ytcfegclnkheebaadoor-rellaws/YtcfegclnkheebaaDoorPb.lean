/-
  The walks of the program's own laid and together.
-/
import Derived.Test.YtcfegclnkheebaaDoorPa
import Derived.Test.YtcfegclnkheebaaDoorE
import Derived.StillTailTactics
namespace Go.Proofs.YtcfegclnkheebaaDoor
open Go.RowKit

set_option maxHeartbeats 1600000 in
theorem laid_of (u : Value) (xs : List Nat) (n : Nat) (w : World) (hu : Sl w u xs) (hn : sz xs ≤ n) (n64 : n ≤ 64) :
    Calls Tryd.prog 42 #[u, .int .i64 n] w fun e w' => ∃ g zs, e = .returned (.slice (some ⟨g, 0, none⟩) zs.length zs.length) ∧ OwnU w' g zs ∧ Bits n (fun a b => hasB xs a b) zs ∧ w.heap.size ≤ g ∧ Below w.heap.size w w' := by
  obtain ⟨i0, hi, hz0, hz1, hz2⟩ := info_parts Tryd.info43
  obtain ⟨m, hm⟩ : ∃ m, sz xs = m := ⟨_, rfl⟩
  have HM : Hid (sz xs = m) := hm
  have hsz : ∀ w', Sl w' u xs → Calls Tryd.prog 38 #[u] w' fun e w'' => e = .returned (.int .i64 (m : Nat)) ∧ w'' = w' := fun w' h => hm ▸ size_of u xs w' h
  rw [hm] at hn
  clear hm
  go_enter Tryd.func42, Tryd.ntmps42
  go_wp2_with (first | (at_make; refine wpList_make_full _ rfl _ _ 23 rfl w.heap.size 43 i0 (.int .u64 0) 1 Tryd.underlying23 hi hz0 hz1 .i64 .i64 _ _ n rfl rfl rfl rfl (by rw [hz2]; omega) (by unfold maxLen; omega) (Nat.le_refl _) ?_; intro w1 hown hgrow))
  obtain ⟨ho, _⟩ := own_of_row hown
  have hb1 : Below w.heap.size w w1 := (Below.refl _ _).grown hgrow (Nat.le_refl _) (fun k e => by simp at e)
  clear hown hgrow hi hz0 hz1 hz2
  have hu1 := hu.below hb1
  refine (hsz _ hu1).mono ?_
  rintro e w' ⟨rfl, hw⟩
  subst w'
  go_wp2_with fail
  go_loopw [11] (fun s wr => ∃ (i : Nat) (zs : List Nat), i ≤ m ∧ s = .int .i64 i ∧ OwnU wr w.heap.size zs ∧ Bits n (fun a b => decide (a < i) && hasB xs a b) zs ∧ Below w.heap.size w wr) (fun s _ => m - (intOf s).toNat)
  case atStart => exact ⟨0, _, Nat.zero_le _, rfl, ho, (Bits.zero n).congr (fun a b _ _ => by simp), hb1⟩
  case round =>
    clear ho hb1 hu1
    obtain ⟨i, zs, hin, rfl, ho, hbits, hb⟩ := hrel
    by_cases hlt : i < m
    · have hlt' : (i : Int) < (m : Int) := by omega
      have hsu := hu.below hb
      have hl := hbits.1
      obtain ⟨b1, o1, cp1, rfl, k1⟩ := hsu.at (i := i) (by have := HM.out; unfold sz at this; omega)
      have fr := ho.free i
      obtain ⟨x, hx⟩ : ∃ x, xs.getD i 0 = x := ⟨_, rfl⟩
      rw [hx] at k1
      have fx : x < 18446744073709551616 := by rw [← hx]; exact hu.1 i
      have HX : Hid (xs.getD i 0 = x) := hx
      clear hx
      obtain ⟨z, hz⟩ : ∃ z, z = msk m := ⟨_, rfl⟩
      have HZ : Hid (z = msk m) := hz
      have fz : z < 18446744073709551616 := by rw [hz]; exact msk_lt (by omega)
      have m64 : m ≤ 64 := by omega
      clear hz
      obtain ⟨y, hy⟩ : ∃ y, x &&& z = y := ⟨_, rfl⟩
      have e1 : bits .and .u64 (x : Int) (z : Int) = (y : Int) := by rw [bits_and_u64_nat x z fx fz, hy]
      have HY : Hid (x &&& z = y) := hy
      clear hy
      have kc := ho.cell (i := i) (by omega)
      have hin' : (i : Int) < (n : Int) := by omega
      have hix : (i : Int) < (xs.length : Int) := by have := HM.out; unfold sz at this; omega
      go_wp2_with fail
      obtain ⟨w2, hw2⟩ : ∃ w2 : World, w2 = { wr with drawn := wr.drawn + 1 } := ⟨_, rfl⟩
      have k1' : w2.cell? { block := b1, off := o1 + i } = some (.int .u64 x) := by rw [hw2]; exact k1
      have kc' : w2.cell? { block := w.heap.size, off := i } = some (.int .u64 ((zs.getD i 0 : Nat) : Int)) := by rw [hw2]; exact kc
      have fr' : w2.frozen? { block := w.heap.size, off := i } = false := by rw [hw2]; exact fr
      have ho' : OwnU w2 w.heap.size zs := by rw [hw2]; exact ho
      have hb' : Below w.heap.size w w2 := by rw [hw2]; exact below_drewN hb 1
      have hsu' := hu.below hb'
      refine wp_region_still_tail 10 (by kernel_rfl) (by kernel_rfl) ?_
      rw [← hw2]
      clear hw2 k1 kc fr ho hb hsu
      simp only [List.take_succ_cons, List.take_zero, List.drop_succ_cons, List.drop_zero]
      repeat (first | still_step | (refine wpStill_step (fun K hK => ?_); go_simp; first | (refine ⟨_, hsz _ hsu', hK _ ?_⟩; clear hK K) | (refine ⟨_, first_of _ z _ m64 HZ, hK _ ?_⟩; clear hK K)))
      refine wpStill_nil ?_
      go_wp2_with fail
      go_roundw
      case rel =>
        refine ⟨i + 1, _, by omega, by go_num, ho'.store i y, (hbits.row (fun b => hasB xs i b) (by omega) (by rw [← HY.out]; exact and_lt fx) ?_).congr ?_, ?_⟩
        · intro b
          have hm := HM.out
          rw [← HY.out, HZ.out, Nat.testBit_and, msk_bit, ← HX.out, hasB_and' (by omega), hasB_row (by omega), hm]
        · intro a b _ _
          exact row_next (fun a b => hasB xs a b) i a b
        · exact below_set hb' (Nat.le_refl _)
      case measure => simp [intOf]; omega
    · go_wp2_with fail
      go_ret
      have e : i = m := by omega
      subst e
      refine ⟨w.heap.size, zs, by rw [hbits.1]; rfl, ho, hbits.congr (fun a b _ _ => hasB_and (by have := HM.out; omega) a b), Nat.le_refl _, hb⟩

set_option maxHeartbeats 1600000 in
theorem together_of (u v : Value) (xs ys : List Nat) (w : World) (hu : Sl w u xs) (hv : Sl w v ys) :
    Calls Tryd.prog 34 #[u, v] w fun e w' => ∃ g h ps qs, e = .returned (.tuple #[.slice (some ⟨g, 0, none⟩) ps.length ps.length, .slice (some ⟨h, 0, none⟩) qs.length qs.length]) ∧ OwnU w' g ps ∧ OwnU w' h qs ∧ Bits (max (sz xs) (sz ys)) (fun a b => hasB xs a b) ps ∧ Bits (max (sz xs) (sz ys)) (fun a b => hasB ys a b) qs ∧ w.heap.size ≤ g ∧ w.heap.size ≤ h ∧ g ≠ h ∧ Below w.heap.size w w' := by
  have hx := sz_le xs
  have hy := sz_le ys
  obtain ⟨n, hn⟩ : ∃ n, max (sz xs) (sz ys) = n := ⟨_, rfl⟩
  rw [hn]
  by_cases hxy : sz xs < sz ys
  all_goals
    go_enter Tryd.func34, Tryd.ntmps34
    go_wp2_with (first | (go_at_call 38; refine (size_of _ _ _ (by assumption)).mono ?_; rintro e w' ⟨rfl, hw⟩; subst w'))
    refine (laid_of _ xs _ _ hu (by omega) (by omega)).mono ?_
    rintro e w1 ⟨g, ps, rfl, o1, b1, g1, l1⟩
    have hv1 := hv.below l1
    go_wp2_with fail
    refine (laid_of _ ys _ _ hv1 (by omega) (by omega)).mono ?_
    rintro e w2 ⟨h, qs, rfl, o2, b2, g2, l2⟩
    go_wp2_with fail
    go_ret2
    have en : n = sz xs ∨ n = sz ys := by omega
    refine ⟨g, h, ps, qs, rfl, o1.below l2 o1.lt, o2, ?_, ?_, g1, Nat.le_trans l1.size g2, by have := o1.lt; omega, l1.trans (l2.mono l1.size)⟩
    · first | (have e : n = sz ys := by omega
               rw [e]; exact b1) | (have e : n = sz xs := by omega
                                    rw [e]; exact b1)
    · first | (have e : n = sz ys := by omega
               rw [e]; exact b2) | (have e : n = sz xs := by omega
                                    rw [e]; exact b2)
end Go.Proofs.YtcfegclnkheebaaDoor
