/-
  The walks of the program's own Union, Inter, Minus.
-/
import Derived.Test.YtcfegclnkheebaaDoorPb
namespace Go.Proofs.YtcfegclnkheebaaDoor
open Go.RowKit

/-- Rows ahead of i are laid together with those of another. -/
def mixG (f : Bool → Bool → Bool) (A B : Nat → Nat → Bool) (i a b : Nat) : Bool := if a < i then f (A a b) (B a b) else A a b
theorem mixG_zero (f : Bool → Bool → Bool) (A B : Nat → Nat → Bool) (a b : Nat) : mixG f A B 0 a b = A a b := by simp [mixG]
theorem mixG_row (f : Bool → Bool → Bool) (A B : Nat → Nat → Bool) (i b : Nat) : mixG f A B i i b = A i b := by simp [mixG]
theorem mixG_next (f : Bool → Bool → Bool) (A B : Nat → Nat → Bool) (i a b : Nat) : (if a = i then f (A i b) (B i b) else mixG f A B i a b) = mixG f A B (i + 1) a b := by
  by_cases e : a = i
  · subst e; rw [if_pos rfl]; unfold mixG; rw [if_pos (by omega)]
  · rw [if_neg e]; unfold mixG
    by_cases h : a < i
    · rw [if_pos h, if_pos (by omega)]
    · rw [if_neg h, if_neg (by omega)]
theorem mixG_end {f : Bool → Bool → Bool} {A B : Nat → Nat → Bool} {n a b : Nat} (h : a < n) : mixG f A B n a b = f (A a b) (B a b) := by unfold mixG; rw [if_pos h]

set_option maxHeartbeats 1600000 in
theorem union_of (u v : Value) (xs ys : List Nat) (w : World) (hu : Sl w u xs) (hv : Sl w v ys) :
    Calls Tryd.prog 13 #[u, v] w fun e w' => ∃ g zs, e = .returned (.slice (some ⟨g, 0, none⟩) zs.length zs.length) ∧ OwnU w' g zs ∧ Bits (max (sz xs) (sz ys)) (fun a b => hasB xs a b || hasB ys a b) zs ∧ w.heap.size ≤ g ∧ Below w.heap.size w w' := by
  have hx := sz_le xs
  have hy := sz_le ys
  have T := together_of u v xs ys w hu hv
  obtain ⟨n, hn⟩ : ∃ n, max (sz xs) (sz ys) = n := ⟨_, rfl⟩
  have n64 : n ≤ 64 := by omega
  rw [hn] at T ⊢
  obtain ⟨A, hA⟩ : ∃ F : Nat → Nat → Bool, F = fun (i k : Nat) => hasB xs i k := ⟨_, rfl⟩
  obtain ⟨B, hB⟩ : ∃ F : Nat → Nat → Bool, F = fun (i k : Nat) => hasB ys i k := ⟨_, rfl⟩
  rw [← hA, ← hB] at T
  have HA : Hid (∀ i k : Nat, A i k = hasB xs i k) := fun i k => by rw [hA]
  have HB : Hid (∀ i k : Nat, B i k = hasB ys i k) := fun i k => by rw [hB]
  clear hA hB hx hy hn hu hv
  go_enter Tryd.func13, Tryd.ntmps13
  go_wp2_with fail
  refine T.mono ?_
  rintro e w1 ⟨g, h, ps, qs, rfl, ho, hq, hbp, hbq, hg, hh, hgh, hb1⟩
  have lq := hbq.1
  have lp := hbp.1
  rw [lp, lq]
  clear T
  go_wp2_with fail
  go_loopw [15] (fun s wr => ∃ (i : Nat) (zs : List Nat), i ≤ n ∧ s = .int .i64 i ∧ OwnU wr g zs ∧ OwnU wr h qs ∧ Bits n (mixG (fun p q => p || q) A B i) zs ∧ Below w.heap.size w wr) (fun s _ => n - (intOf s).toNat)
  case atStart => exact ⟨0, ps, Nat.zero_le _, rfl, ho, hq, hbp.congr (fun a b _ _ => (mixG_zero _ A B a b).symm), hb1⟩
  case round =>
    clear ho hb1 hq hbp lp
    obtain ⟨i, zs, hin, rfl, ho, hq, hbits, hb⟩ := hrel
    by_cases hlt : i < n
    · have hlt' : (i : Int) < (n : Int) := by omega
      have hl := hbits.1
      have k1 := ho.cell (i := i) (by omega)
      have k2 := hq.cell (i := i) (by omega)
      have fr := ho.free i
      have r1 := hbits.read hlt
      have r2 := hbq.read hlt
      have fx := hbits.2.1 i
      have fy := hbq.2.1 i
      obtain ⟨x, hx⟩ : ∃ x, zs.getD i 0 = x := ⟨_, rfl⟩
      obtain ⟨y, hy⟩ : ∃ y, qs.getD i 0 = y := ⟨_, rfl⟩
      rw [hx] at k1 r1 fx
      rw [hy] at k2 r2 fy
      clear hx hy
      obtain ⟨z, hz⟩ : ∃ z, x ||| y = z := ⟨_, rfl⟩
      have e1 : bits .or .u64 (x : Int) (y : Int) = (z : Int) := by rw [bits_or_u64_nat x y fx fy, hz]
      have S : Hid (Bits n (mixG (fun p q => p || q) A B (i + 1)) (zs.set i z)) := by
        refine (hbits.row (fun b => (fun p q => p || q) (A i b) (B i b)) hlt (by rw [← hz]; exact or_lt fx fy) (fun b => ?_)).congr (fun a b _ _ => mixG_next _ A B i a b)
        rw [← hz, Nat.testBit_or, r1, r2, mixG_row]
        cases decide (b < n) <;> simp
      have O1 := ho.store i z
      have O2 := hq.other (a := ⟨g, i, none⟩) (.int .u64 (z : Int)) (fun e => hgh e.symm)
      have L : Below w.heap.size w (wr.setCell ⟨g, i, none⟩ (.int .u64 (z : Int))) := below_set hb hg
      clear hz r1 r2 fx fy
      go_wp2_with fail
      go_roundw
      case rel => exact ⟨i + 1, _, by omega, by go_num, O1, O2, S.out, L⟩
      case measure => simp [intOf]; omega
    · go_wp2_with fail
      go_ret
      have e : i = n := by omega
      subst e
      refine ⟨g, zs, by rw [hbits.1]; rfl, ho, hbits.congr (fun a b ha _ => ?_), hg, hb⟩
      rw [mixG_end ha, HA.out, HB.out]

set_option maxHeartbeats 1600000 in
theorem inter_of (u v : Value) (xs ys : List Nat) (w : World) (hu : Sl w u xs) (hv : Sl w v ys) :
    Calls Tryd.prog 15 #[u, v] w fun e w' => ∃ g zs, e = .returned (.slice (some ⟨g, 0, none⟩) zs.length zs.length) ∧ OwnU w' g zs ∧ Bits (max (sz xs) (sz ys)) (fun a b => hasB xs a b && hasB ys a b) zs ∧ w.heap.size ≤ g ∧ Below w.heap.size w w' := by
  have hx := sz_le xs
  have hy := sz_le ys
  have T := together_of u v xs ys w hu hv
  obtain ⟨n, hn⟩ : ∃ n, max (sz xs) (sz ys) = n := ⟨_, rfl⟩
  have n64 : n ≤ 64 := by omega
  rw [hn] at T ⊢
  obtain ⟨A, hA⟩ : ∃ F : Nat → Nat → Bool, F = fun (i k : Nat) => hasB xs i k := ⟨_, rfl⟩
  obtain ⟨B, hB⟩ : ∃ F : Nat → Nat → Bool, F = fun (i k : Nat) => hasB ys i k := ⟨_, rfl⟩
  rw [← hA, ← hB] at T
  have HA : Hid (∀ i k : Nat, A i k = hasB xs i k) := fun i k => by rw [hA]
  have HB : Hid (∀ i k : Nat, B i k = hasB ys i k) := fun i k => by rw [hB]
  clear hA hB hx hy hn hu hv
  go_enter Tryd.func15, Tryd.ntmps15
  go_wp2_with fail
  refine T.mono ?_
  rintro e w1 ⟨g, h, ps, qs, rfl, ho, hq, hbp, hbq, hg, hh, hgh, hb1⟩
  have lq := hbq.1
  have lp := hbp.1
  rw [lp, lq]
  clear T
  go_wp2_with fail
  go_loopw [15] (fun s wr => ∃ (i : Nat) (zs : List Nat), i ≤ n ∧ s = .int .i64 i ∧ OwnU wr g zs ∧ OwnU wr h qs ∧ Bits n (mixG (fun p q => p && q) A B i) zs ∧ Below w.heap.size w wr) (fun s _ => n - (intOf s).toNat)
  case atStart => exact ⟨0, ps, Nat.zero_le _, rfl, ho, hq, hbp.congr (fun a b _ _ => (mixG_zero _ A B a b).symm), hb1⟩
  case round =>
    clear ho hb1 hq hbp lp
    obtain ⟨i, zs, hin, rfl, ho, hq, hbits, hb⟩ := hrel
    by_cases hlt : i < n
    · have hlt' : (i : Int) < (n : Int) := by omega
      have hl := hbits.1
      have k1 := ho.cell (i := i) (by omega)
      have k2 := hq.cell (i := i) (by omega)
      have fr := ho.free i
      have r1 := hbits.read hlt
      have r2 := hbq.read hlt
      have fx := hbits.2.1 i
      have fy := hbq.2.1 i
      obtain ⟨x, hx⟩ : ∃ x, zs.getD i 0 = x := ⟨_, rfl⟩
      obtain ⟨y, hy⟩ : ∃ y, qs.getD i 0 = y := ⟨_, rfl⟩
      rw [hx] at k1 r1 fx
      rw [hy] at k2 r2 fy
      clear hx hy
      obtain ⟨z, hz⟩ : ∃ z, x &&& y = z := ⟨_, rfl⟩
      have e1 : bits .and .u64 (x : Int) (y : Int) = (z : Int) := by rw [bits_and_u64_nat x y fx fy, hz]
      have S : Hid (Bits n (mixG (fun p q => p && q) A B (i + 1)) (zs.set i z)) := by
        refine (hbits.row (fun b => (fun p q => p && q) (A i b) (B i b)) hlt (by rw [← hz]; exact and_lt fx) (fun b => ?_)).congr (fun a b _ _ => mixG_next _ A B i a b)
        rw [← hz, Nat.testBit_and, r1, r2, mixG_row]
        cases decide (b < n) <;> simp
      have O1 := ho.store i z
      have O2 := hq.other (a := ⟨g, i, none⟩) (.int .u64 (z : Int)) (fun e => hgh e.symm)
      have L : Below w.heap.size w (wr.setCell ⟨g, i, none⟩ (.int .u64 (z : Int))) := below_set hb hg
      clear hz r1 r2 fx fy
      go_wp2_with fail
      go_roundw
      case rel => exact ⟨i + 1, _, by omega, by go_num, O1, O2, S.out, L⟩
      case measure => simp [intOf]; omega
    · go_wp2_with fail
      go_ret
      have e : i = n := by omega
      subst e
      refine ⟨g, zs, by rw [hbits.1]; rfl, ho, hbits.congr (fun a b ha _ => ?_), hg, hb⟩
      rw [mixG_end ha, HA.out, HB.out]

set_option maxHeartbeats 1600000 in
theorem minus_of (u v : Value) (xs ys : List Nat) (w : World) (hu : Sl w u xs) (hv : Sl w v ys) :
    Calls Tryd.prog 16 #[u, v] w fun e w' => ∃ g zs, e = .returned (.slice (some ⟨g, 0, none⟩) zs.length zs.length) ∧ OwnU w' g zs ∧ Bits (max (sz xs) (sz ys)) (fun a b => hasB xs a b && !hasB ys a b) zs ∧ w.heap.size ≤ g ∧ Below w.heap.size w w' := by
  have hx := sz_le xs
  have hy := sz_le ys
  have T := together_of u v xs ys w hu hv
  obtain ⟨n, hn⟩ : ∃ n, max (sz xs) (sz ys) = n := ⟨_, rfl⟩
  have n64 : n ≤ 64 := by omega
  rw [hn] at T ⊢
  obtain ⟨A, hA⟩ : ∃ F : Nat → Nat → Bool, F = fun (i k : Nat) => hasB xs i k := ⟨_, rfl⟩
  obtain ⟨B, hB⟩ : ∃ F : Nat → Nat → Bool, F = fun (i k : Nat) => hasB ys i k := ⟨_, rfl⟩
  rw [← hA, ← hB] at T
  have HA : Hid (∀ i k : Nat, A i k = hasB xs i k) := fun i k => by rw [hA]
  have HB : Hid (∀ i k : Nat, B i k = hasB ys i k) := fun i k => by rw [hB]
  clear hA hB hx hy hn hu hv
  go_enter Tryd.func16, Tryd.ntmps16
  go_wp2_with fail
  refine T.mono ?_
  rintro e w1 ⟨g, h, ps, qs, rfl, ho, hq, hbp, hbq, hg, hh, hgh, hb1⟩
  have lq := hbq.1
  have lp := hbp.1
  rw [lp, lq]
  clear T
  go_wp2_with fail
  go_loopw [15] (fun s wr => ∃ (i : Nat) (zs : List Nat), i ≤ n ∧ s = .int .i64 i ∧ OwnU wr g zs ∧ OwnU wr h qs ∧ Bits n (mixG (fun p q => p && !q) A B i) zs ∧ Below w.heap.size w wr) (fun s _ => n - (intOf s).toNat)
  case atStart => exact ⟨0, ps, Nat.zero_le _, rfl, ho, hq, hbp.congr (fun a b _ _ => (mixG_zero _ A B a b).symm), hb1⟩
  case round =>
    clear ho hb1 hq hbp lp
    obtain ⟨i, zs, hin, rfl, ho, hq, hbits, hb⟩ := hrel
    by_cases hlt : i < n
    · have hlt' : (i : Int) < (n : Int) := by omega
      have hl := hbits.1
      have k1 := ho.cell (i := i) (by omega)
      have k2 := hq.cell (i := i) (by omega)
      have fr := ho.free i
      have r1 := hbits.read hlt
      have r2 := hbq.read hlt
      have fx := hbits.2.1 i
      have fy := hbq.2.1 i
      obtain ⟨x, hx⟩ : ∃ x, zs.getD i 0 = x := ⟨_, rfl⟩
      obtain ⟨y, hy⟩ : ∃ y, qs.getD i 0 = y := ⟨_, rfl⟩
      rw [hx] at k1 r1 fx
      rw [hy] at k2 r2 fy
      clear hx hy
      obtain ⟨z, hz⟩ : ∃ z, clr x y = z := ⟨_, rfl⟩
      have e1 : bits .andNot .u64 (x : Int) (y : Int) = (z : Int) := by rw [bits_clr x y fx fy, hz]
      have S : Hid (Bits n (mixG (fun p q => p && !q) A B (i + 1)) (zs.set i z)) := by
        refine (hbits.row (fun b => (fun p q => p && !q) (A i b) (B i b)) hlt (by rw [← hz]; exact clr_lt fx) (fun b => ?_)).congr (fun a b _ _ => mixG_next _ A B i a b)
        rw [← hz, clr_bit fx, r1, r2, mixG_row]
        cases decide (b < n) <;> simp
      have O1 := ho.store i z
      have O2 := hq.other (a := ⟨g, i, none⟩) (.int .u64 (z : Int)) (fun e => hgh e.symm)
      have L : Below w.heap.size w (wr.setCell ⟨g, i, none⟩ (.int .u64 (z : Int))) := below_set hb hg
      clear hz r1 r2 fx fy
      go_wp2_with fail
      go_roundw
      case rel => exact ⟨i + 1, _, by omega, by go_num, O1, O2, S.out, L⟩
      case measure => simp [intOf]; omega
    · go_wp2_with fail
      go_ret
      have e : i = n := by omega
      subst e
      refine ⟨g, zs, by rw [hbits.1]; rfl, ho, hbits.congr (fun a b ha _ => ?_), hg, hb⟩
      rw [mixG_end ha, HA.out, HB.out]
end Go.Proofs.YtcfegclnkheebaaDoor
