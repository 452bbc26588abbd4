/-
  The walks of the program's own step and Then.
-/
import Derived.Test.YtcfegclnkheebaaDoorPd
namespace Go.Proofs.YtcfegclnkheebaaDoor
open Go.RowKit

set_option maxHeartbeats 1600000 in
theorem step_of (f : Nat) (v : Value) (zs : List Nat) (n : Nat) (K : Nat → Bool) (G : Nat → Nat → Bool) (w : World) (hs : Sl w v zs) (hz : Bits n G zs) (hf : Left n K 0 f) (tab : Tab w) :
    Calls Tryd.prog 37 #[.int .u64 f, v] w fun e w' => ∃ y : Nat, e = .returned (.int .u64 y) ∧ y < 18446744073709551616 ∧ (∀ b, y.testBit b = (decide (b < n) && viaB (fun _ j => K j) G n 0 b)) ∧ w' = w := by
  go_enter Tryd.func37, Tryd.ntmps37
  go_wp2_with fail
  go_loopw [0, 5] (fun s t wr => ∃ (m x y : Nat), s = .int .u64 x ∧ t = .int .u64 y ∧ Hid (Left n K m x) ∧ y < 18446744073709551616 ∧ Hid (∀ b, y.testBit b = (decide (b < n) && viaB (fun _ j => K j) G m 0 b)) ∧ wr = w) (fun s _ _ => (intOf s).toNat)
  case atStart => exact ⟨0, f, 0, rfl, rfl, hf, by decide, fun b => by rw [viaB_zero]; simp, rfl⟩
  case round =>
    obtain ⟨m, x, y, rfl, rfl, HL, fy, HY, rfl⟩ := hrel
    have fx := HL.out.lt
    by_cases hx : x = 0
    · subst hx
      go_wp2_with fail
      go_ret
      refine ⟨y, rfl, fy, fun b => ?_, rfl⟩
      rw [HY.out b, ← viaB_skip (a := 0) (b := b) (A := fun _ j => K j) (B := G) HL.out.le (fun j h1 h2 => HL.out.done j h1 h2)]
    · obtain ⟨h1, h2, h3, h4, h5⟩ := HL.out.next hx
      obtain ⟨t, ht⟩ : ∃ t, t = Lib.ctz 64 x := ⟨_, rfl⟩
      have HT : Hid (t = Lib.ctz 64 x) := ht
      rw [← ht] at h1 h2 h3 h4 h5
      clear ht
      have hl := hz.1
      obtain ⟨b1, o1, cp, rfl, kc⟩ := hs.at (i := t) (by omega)
      have tl : (t : Int) < (zs.length : Int) := by omega
      have fz := hz.2.1 t
      have rz := hz.read h2
      obtain ⟨z, hzz⟩ : ∃ z, zs.getD t 0 = z := ⟨_, rfl⟩
      rw [hzz] at kc fz rz
      obtain ⟨y2, hy2⟩ : ∃ y2, y ||| z = y2 := ⟨_, rfl⟩
      have e1 : bits .or .u64 (y : Int) (z : Int) = (y2 : Int) := by rw [bits_or_u64_nat y z fy fz, hy2]
      obtain ⟨x2, hx2⟩ : ∃ x2, x &&& (x - 1) = x2 := ⟨_, rfl⟩
      have e3 : bits .and .u64 (x : Int) ((x : Int) - 1) = (x2 : Int) := by
        rw [show (x : Int) - 1 = ((x - 1 : Nat) : Int) by omega, bits_and_u64_nat x (x - 1) fx (by omega), hx2]
      have e2 : IntKind.u64.wrap ((x : Int) - 1) = (x : Int) - 1 := u64_in (by omega) (by omega)
      have lt2 : x2 < x := by rw [← hx2]; exact Nat.lt_of_le_of_lt Nat.and_le_right (by omega)
      have S1 : Hid (Left n K (t + 1) x2) := by rw [← hx2]; exact h5
      have f2 : y2 < 18446744073709551616 := by rw [← hy2]; exact or_lt fy fz
      have S2 : Hid (∀ b, y2.testBit b = (decide (b < n) && viaB (fun _ j => K j) G (t + 1) 0 b)) := fun b => by
        rw [← hy2, Nat.testBit_or, HY.out b, rz b, viaB_succ, viaB_skip h1 (fun j h6 h7 => h4 j h6 h7), h3]
        cases decide (b < n) <;> simp
      have hx' : ((x : Int) != 0) = true := by rw [bne_iff_ne]; omega
      clear hzz hy2 hx2 h1 h3 h4 h5 rz hl
      go_wp2_with (go_at_call 43; refine (tz_of x t _ fx hx HT tab).mono ?_; rintro e w' ⟨rfl, hw⟩; subst w')
      go_roundw
      case rel => exact ⟨t + 1, x2, y2, rfl, rfl, S1, f2, S2, trivial⟩
      case measure => simp [intOf]; omega

theorem Left.ofRow {n : Nat} {G : Nat → Nat → Bool} {zs : List Nat} {i : Nat} (h : Bits n G zs) (hi : i < n) : Left n (G i) 0 (zs.getD i 0) :=
  ⟨Nat.zero_le _, h.2.1 i, fun j => by rw [h.read hi j, decide_eq_true (Nat.zero_le j)]; rfl⟩
/-- Rows ahead of i have gone one step further. -/
def stepG (A B : Nat → Nat → Bool) (n i a b : Nat) : Bool := if a < i then viaB A B n a b else A a b
theorem stepG_zero (A B : Nat → Nat → Bool) (n a b : Nat) : stepG A B n 0 a b = A a b := by simp [stepG]
theorem stepG_row (A B : Nat → Nat → Bool) (n i b : Nat) : stepG A B n i i b = A i b := by simp [stepG]
theorem stepG_next (A B : Nat → Nat → Bool) (n i a b : Nat) : (if a = i then viaB A B n i b else stepG A B n i a b) = stepG A B n (i + 1) a b := by
  by_cases e : a = i
  · subst e; rw [if_pos rfl]; unfold stepG; rw [if_pos (by omega)]
  · rw [if_neg e]; unfold stepG
    by_cases h : a < i
    · rw [if_pos h, if_pos (by omega)]
    · rw [if_neg h, if_neg (by omega)]
theorem stepG_end {A B : Nat → Nat → Bool} {n a b : Nat} (h : a < n) : stepG A B n n a b = viaB A B n a b := by unfold stepG; rw [if_pos h]
theorem viaB_one (A B : Nat → Nat → Bool) (n i b : Nat) : viaB (fun _ j => A i j) B n 0 b = viaB A B n i b := rfl
theorem viaB_congr {A A' B B' : Nat → Nat → Bool} {n a b : Nat} (hA : ∀ j, A a j = A' a j) (hB : ∀ j, B j b = B' j b) : viaB A B n a b = viaB A' B' n a b := by
  unfold viaB; congr 1; funext j; rw [hA, hB]
theorem Tab.below' {w w1 : World} (hb : Below w.heap.size w w1) (h : Tab w) : Tab w1 := Tab.below hb h

set_option maxHeartbeats 1600000 in
theorem then_of (u v : Value) (xs ys : List Nat) (w : World) (hu : Sl w u xs) (hv : Sl w v ys) (tab : Tab w) :
    Calls Tryd.prog 17 #[u, v] w fun e w' => ∃ g zs, e = .returned (.slice (some ⟨g, 0, none⟩) zs.length zs.length) ∧ OwnU w' g zs ∧ Bits (max (sz xs) (sz ys)) (viaB (fun a b => hasB xs a b) (fun a b => hasB ys a b) (max (sz xs) (sz ys))) zs ∧ w.heap.size ≤ g ∧ Below w.heap.size w w' := by
  have hx := sz_le xs
  have hy := sz_le ys
  have T := together_of u v xs ys w hu hv
  obtain ⟨n, hn⟩ : ∃ n, max (sz xs) (sz ys) = n := ⟨_, rfl⟩
  have n64 : n ≤ 64 := by omega
  rw [hn] at T ⊢
  obtain ⟨A, hA⟩ : ∃ F : Nat → Nat → Bool, F = fun (i k : Nat) => hasB xs i k := ⟨_, rfl⟩
  obtain ⟨B, hB⟩ : ∃ F : Nat → Nat → Bool, F = fun (i k : Nat) => hasB ys i k := ⟨_, rfl⟩
  rw [← hA, ← hB] at T
  have HA : Hid (∀ i k : Nat, A i k = hasB xs i k) := fun i k => by rw [hA]
  have HB : Hid (∀ i k : Nat, B i k = hasB ys i k) := fun i k => by rw [hB]
  clear hA hB hx hy hn hu hv
  go_enter Tryd.func17, Tryd.ntmps17
  go_wp2_with fail
  refine T.mono ?_
  rintro e w1 ⟨g, h, ps, qs, rfl, ho, hq, hbp, hbq, hg, hh, hgh, hb1⟩
  have lq := hbq.1
  have lp := hbp.1
  rw [lp, lq]
  clear T
  go_wp2_with fail
  go_loopw [15] (fun s wr => ∃ (i : Nat) (zs : List Nat), i ≤ n ∧ s = .int .i64 i ∧ OwnU wr g zs ∧ OwnU wr h qs ∧ Bits n (stepG A B n i) zs ∧ Below w.heap.size w wr) (fun s _ => n - (intOf s).toNat)
  case atStart => exact ⟨0, ps, Nat.zero_le _, rfl, ho, hq, hbp.congr (fun a b _ _ => (stepG_zero A B n a b).symm), hb1⟩
  case round =>
    clear ho hb1 hq hbp lp
    obtain ⟨i, zs, hin, rfl, ho, hq, hbits, hb⟩ := hrel
    by_cases hlt : i < n
    · have hlt' : (i : Int) < (n : Int) := by omega
      have hl := hbits.1
      have k1 := ho.cell (i := i) (by omega)
      have fr := ho.free i
      have L1 := Left.ofRow hbits hlt
      have tabr := tab.below' hb
      have hsq : Sl wr (.slice (some ⟨h, 0, none⟩) n n) qs := by have := Sl.own hq hbq.2.1 (by omega) n; rw [lq] at this; exact this
      obtain ⟨x, hx⟩ : ∃ x, zs.getD i 0 = x := ⟨_, rfl⟩
      rw [hx] at k1 L1
      have ST := step_of x _ qs n _ _ wr hsq hbq L1 tabr
      clear hx hl lq hsq L1
      go_wp2_with fail
      refine ST.mono ?_
      rintro e w' ⟨z, rfl, fz, hz, hw⟩
      subst w'
      have S : Hid (Bits n (stepG A B n (i + 1)) (zs.set i z)) := by
        refine (hbits.row (fun b => viaB A B n i b) hlt fz (fun b => ?_)).congr (fun a b _ _ => stepG_next A B n i a b)
        rw [hz b]
        congr 1
        exact viaB_congr (A := fun _ j => stepG A B n i i j) (A' := fun _ j => A i j) (a := 0) (fun j => stepG_row A B n i j) (fun _ => rfl)
      have O1 := ho.store i z
      have O2 := hq.other (a := ⟨g, i, none⟩) (.int .u64 (z : Int)) (fun e => hgh e.symm)
      have L : Below w.heap.size w (wr.setCell ⟨g, i, none⟩ (.int .u64 (z : Int))) := below_set hb hg
      clear hz fz
      go_wp2_with fail
      go_roundw
      case rel => exact ⟨i + 1, _, by omega, by go_num, O1, O2, S.out, L⟩
      case measure => simp [intOf]; omega
    · go_wp2_with fail
      go_ret
      have e : i = n := by omega
      subst e
      refine ⟨g, zs, by rw [hbits.1]; rfl, ho, hbits.congr (fun a b ha _ => ?_), hg, hb⟩
      rw [stepG_end ha]
      exact viaB_congr (fun j => HA.out a j) (fun j => HB.out j b)
end Go.Proofs.YtcfegclnkheebaaDoor
