/-
  The walk of the program's own Back.
-/
import Derived.Test.YtcfegclnkheebaaDoorPe
namespace Go.Proofs.YtcfegclnkheebaaDoor
open Go.RowKit

theorem upto_low {A : Nat → Nat → Bool} {i m t : Nat} (h3 : A i t = true) (h1 : m ≤ t) (h4 : ∀ j, m ≤ j → j < t → A i j = false) (a b : Nat) : (if a = t then upto A i m b t || decide (b = i) else upto A i m b a) = upto A i (t + 1) b a := by
  by_cases e : a = t
  · subst e
    rw [if_pos rfl]
    unfold upto
    by_cases eb : b = i
    · subst eb; simp [h3]
    · simp [eb]
  · rw [if_neg e]
    unfold upto
    by_cases eb : b = i
    · subst eb
      by_cases h : a < m
      · have : a < t + 1 := by omega
        simp [h, this]
      · by_cases h' : a < t
        · rw [h4 a (by omega) h']; simp
        · have : ¬ a < t + 1 := by omega
          simp [h, this]
    · simp [eb]
theorem upto_full {A : Nat → Nat → Bool} {i m n : Nat} (h : ∀ j, m ≤ j → j < n → A i j = false) {a b : Nat} (ha : a < n) : upto A i m b a = upto A (i + 1) 0 b a := by
  rw [← upto_row ha]
  unfold upto
  by_cases eb : b = i
  · subst eb
    by_cases h' : a < m
    · simp [h', ha]
    · rw [h a (by omega) ha]; simp
  · simp [eb]

set_option maxHeartbeats 1600000 in
theorem back_of (u : Value) (xs : List Nat) (w : World) (hu : Sl w u xs) (tab : Tab w) :
    Calls Tryd.prog 21 #[u] w fun e w' => ∃ g zs, e = .returned (.slice (some ⟨g, 0, none⟩) zs.length zs.length) ∧ OwnU w' g zs ∧ Bits (sz xs) (fun a b => hasB xs b a) zs ∧ w.heap.size ≤ g ∧ Below w.heap.size w w' := by
  have hx := sz_le xs
  have T1 := size_of u xs w hu
  have T2 := laid_of u xs (sz xs) w hu (Nat.le_refl _) hx
  obtain ⟨n, hn⟩ : ∃ n, sz xs = n := ⟨_, rfl⟩
  rw [hn] at T1 T2 hx ⊢
  obtain ⟨A, hA⟩ : ∃ F : Nat → Nat → Bool, F = fun (i k : Nat) => hasB xs i k := ⟨_, rfl⟩
  rw [← hA] at T2
  have HA : Hid (∀ i k : Nat, A i k = hasB xs i k) := fun i k => by rw [hA]
  obtain ⟨i0, hi, hz0, hz1, hz2⟩ := info_parts Tryd.info43
  clear hA hn hu
  go_enter Tryd.func21, Tryd.ntmps21
  go_wp2_with (go_at_call 38; refine T1.mono ?_; rintro e w' ⟨rfl, hw⟩; subst w')
  refine T2.mono ?_
  rintro e w1 ⟨g, ps, rfl, hp, hbp, hg, hb1⟩
  have lp := hbp.1
  rw [lp]
  clear T1 T2
  go_wp2_with (at_make; refine wpList_make_full _ rfl _ _ 23 rfl w1.heap.size 43 i0 (.int .u64 0) 1 Tryd.underlying23 hi hz0 hz1 .i64 .i64 _ _ n rfl rfl rfl rfl (by rw [hz2]; omega) (by unfold maxLen; omega) (Nat.le_refl _) ?_; intro w2 hown hgrow)
  obtain ⟨ho, _⟩ := own_of_row hown
  have hb2 : Below w1.heap.size w1 w2 := (Below.refl _ _).grown hgrow (Nat.le_refl _) (fun k e => by simp at e)
  have hp2 := hp.below hb2 hp.lt
  have hgh : g ≠ w1.heap.size := by have := hp.lt; omega
  have hh : w.heap.size ≤ w1.heap.size := hb1.size
  have hb := hb1.trans (hb2.mono hb1.size)
  generalize w1.heap.size = h at ho hgh hh
  clear hown hgrow hi hz0 hz1 hz2 hp hb1 hb2
  go_loopw [15] (fun s wr => ∃ (i : Nat) (zs : List Nat), i ≤ n ∧ s = .int .i64 i ∧ OwnU wr g ps ∧ OwnU wr h zs ∧ Bits n (fun a b => upto A i 0 b a) zs ∧ Below w.heap.size w wr) (fun s _ => n - (intOf s).toNat)
  case atStart => exact ⟨0, _, Nat.zero_le _, rfl, hp2, ho, (Bits.zero n).congr (fun a b _ _ => (upto_zero A b a).symm), hb⟩
  case round =>
    clear ho hp2 hb
    obtain ⟨i, zs, hin, rfl, hp, ho, hbits, hb⟩ := hrel
    by_cases hlt : i < n
    · have hlt' : (i : Int) < (n : Int) := by omega
      have k1 := hp.cell (i := i) (by omega)
      have L1 := Left.ofRow hbp hlt
      obtain ⟨x, hx⟩ : ∃ x, ps.getD i 0 = x := ⟨_, rfl⟩
      rw [hx] at k1 L1
      clear hx
      have i64 : i < 64 := by omega
      obtain ⟨z, hz⟩ : ∃ z, z = 2 ^ i := ⟨_, rfl⟩
      have HZ : Hid (z = 2 ^ i) := hz
      have fz : z < 18446744073709551616 := by rw [hz]; exact pow_lt64 i64
      clear hz
      go_wp2_with fail
      go_loopw [5] (fun s ws => ∃ (m x : Nat) (zs : List Nat), s = .int .u64 x ∧ Hid (Left n (A i) m x) ∧ OwnU ws g ps ∧ OwnU ws h zs ∧ Bits n (fun a b => upto A i m b a) zs ∧ Below w.heap.size w ws) (fun s _ => (intOf s).toNat)
      case atStart => exact ⟨0, x, zs, rfl, L1, hp, ho, hbits, hb⟩
      case round =>
        clear hp ho hbits hb k1 L1
        obtain ⟨m, x, zs, rfl, HL, hp, ho, hbits, hb⟩ := hrel
        have fx := HL.out.lt
        by_cases hx : x = 0
        · subst hx
          go_wp2_with fail
          go_roundw
          case rel => exact ⟨i + 1, zs, by omega, by go_num, hp, ho, hbits.congr (fun a b ha _ => upto_full (fun j h1 h2 => HL.out.done j h1 h2) ha), hb⟩
          case measure => simp [intOf]; omega
        · obtain ⟨h1, h2, h3, h4, h5⟩ := HL.out.next hx
          obtain ⟨t, ht⟩ : ∃ t, t = Lib.ctz 64 x := ⟨_, rfl⟩
          have HT : Hid (t = Lib.ctz 64 x) := ht
          rw [← ht] at h1 h2 h3 h4 h5
          clear ht
          have hl := hbits.1
          have fy := hbits.2.1 t
          have ry := hbits.read h2
          have kc := ho.cell (i := t) (by omega)
          have fr := ho.free t
          have tl : (t : Int) < (n : Int) := by omega
          obtain ⟨y, hy⟩ : ∃ y, zs.getD t 0 = y := ⟨_, rfl⟩
          rw [hy] at kc fy ry
          obtain ⟨y2, hy2⟩ : ∃ y2, y ||| z = y2 := ⟨_, rfl⟩
          have e1 : bits .or .u64 (y : Int) (z : Int) = (y2 : Int) := by rw [bits_or_u64_nat y z fy fz, hy2]
          obtain ⟨x2, hx2⟩ : ∃ x2, x &&& (x - 1) = x2 := ⟨_, rfl⟩
          have e3 : bits .and .u64 (x : Int) ((x : Int) - 1) = (x2 : Int) := by
            rw [show (x : Int) - 1 = ((x - 1 : Nat) : Int) by omega, bits_and_u64_nat x (x - 1) fx (by omega), hx2]
          have e2 : IntKind.u64.wrap ((x : Int) - 1) = (x : Int) - 1 := u64_in (by omega) (by omega)
          have lt2 : x2 < x := by rw [← hx2]; exact Nat.lt_of_le_of_lt Nat.and_le_right (by omega)
          have S1 : Hid (Left n (A i) (t + 1) x2) := by rw [← hx2]; exact h5
          have S2 : Hid (Bits n (fun a b => upto A i (t + 1) b a) (zs.set t y2)) := by
            refine (hbits.row (fun b => upto A i m b t || decide (b = i)) h2 (by rw [← hy2]; exact or_lt fy fz) (fun b => ?_)).congr (fun a b _ _ => upto_low h3 h1 h4 a b)
            rw [← hy2, Nat.testBit_or, ry b, HZ.out, Nat.testBit_two_pow]
            by_cases eb : b = i
            · subst eb; rw [decide_eq_true hlt]; simp
            · rw [decide_eq_false (show ¬ i = b from fun e => eb e.symm), decide_eq_false eb]; simp
          have hx' : ((x : Int) != 0) = true := by rw [bne_iff_ne]; omega
          clear hy hy2 hx2 h1 h3 h4 h5 ry hl
          go_wp2_with fail
          obtain ⟨w3, hw3⟩ : ∃ w3 : World, w3 = { wr with drawn := wr.drawn + 1 } := ⟨_, rfl⟩
          have kc' : w3.cell? { block := h, off := t } = some (.int .u64 y) := by rw [hw3]; exact kc
          have fr' : w3.frozen? { block := h, off := t } = false := by rw [hw3]; exact fr
          have ho' : OwnU w3 h zs := by rw [hw3]; exact ho
          have hp' : OwnU w3 g ps := by rw [hw3]; exact hp
          have hb' : Below w.heap.size w w3 := by rw [hw3]; exact below_drewN hb 1
          have tab' := tab.below' hb'
          refine wp_region_still_tail 8 (by kernel_rfl) (by kernel_rfl) ?_
          rw [← hw3]
          clear hw3 kc fr ho hp hb
          have O1 := ho'.store t y2
          have O2 := hp'.other (a := ⟨h, t, none⟩) (.int .u64 (y2 : Int)) hgh
          have L : Below w.heap.size w (w3.setCell ⟨h, t, none⟩ (.int .u64 (y2 : Int))) := below_set hb' hh
          simp only [List.take_succ_cons, List.take_zero, List.drop_succ_cons, List.drop_zero]
          repeat (first | still_step | (refine wpStill_step (fun K hK => ?_); go_simp; first | (refine ⟨_, tz_of x t _ fx hx HT tab', hK _ ?_⟩; clear hK K) | (refine ⟨_, bit_of i z _ i64 HZ, hK _ ?_⟩; clear hK K)))
          refine wpStill_nil ?_
          go_wp2_with fail
          go_roundw
          case rel => exact ⟨t + 1, x2, _, rfl, S1, O2, O1, S2.out, L⟩
          case measure => simp [intOf]; omega
    · go_wp2_with fail
      go_ret
      have e : i = n := by omega
      subst e
      exact ⟨h, zs, by rw [hbits.1]; rfl, ho, hbits.congr (fun a b _ hb' => (upto_end hb').trans (HA.out b a)), hh, hb⟩
end Go.Proofs.YtcfegclnkheebaaDoor
