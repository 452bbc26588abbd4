/-
  The walks of Back and Then of the document's own answers.
-/
import Derived.Test.YtcfegclnkheebaaDoorC
namespace Go.Proofs.YtcfegclnkheebaaDoor
open Go.RowKit

theorem refSize_any (u : Value) (xs : List Nat) (w : World) (hu : Sl w u xs) :
    Calls Tryd.prog 41 #[u] w fun e w' => e = .returned (.int .i64 (sz xs : Nat)) ∧ w' = w := by
  obtain ⟨_, _, a, ca, rfl, _⟩ := hu
  exact size_any a _ ca w

set_option maxHeartbeats 1600000 in
theorem refBack_any (u : Value) (xs : List Nat) (w : World) (hu : Sl w u xs) :
    Calls Tryd.prog 22 #[u] w fun e w' => ∃ g zs, e = .returned (.slice (some ⟨g, 0, none⟩) zs.length zs.length) ∧ OwnU w' g zs ∧ Bits (sz xs) (fun a b => hasB xs b a) zs ∧ w.heap.size ≤ g ∧ Below w.heap.size w w' := by
  obtain ⟨n, hn⟩ : ∃ n, sz xs = n := ⟨_, rfl⟩
  have hx := sz_le xs
  have n64 : n ≤ 64 := by omega
  obtain ⟨F, hF⟩ : ∃ F : Nat → Nat → Bool, F = fun (i k : Nat) => hasB xs i k := ⟨_, rfl⟩
  obtain ⟨i0, hi, hz0, hz1, hz2⟩ := info_parts Tryd.info43
  rw [hn]
  have HF : Hid (∀ i k : Nat, F i k = hasB xs i k) := fun i k => by rw [hF]
  clear hF
  go_enter Tryd.func22, Tryd.ntmps22
  go_wp2_with (first | (go_at_call 41; refine (refSize_any _ _ _ hu).mono ?_; rintro e w' ⟨rfl, hw⟩; subst w') | (at_make; refine wpList_make_full _ rfl (.tmp 9) (.tmp 9) 23 rfl w.heap.size 43 i0 (.int .u64 0) 1 Tryd.underlying23 hi hz0 hz1 .i64 .i64 _ _ n rfl rfl rfl rfl (by rw [hz2]; omega) (by unfold maxLen; omega) (Nat.le_refl _) ?_; intro w1 hown hgrow))
  obtain ⟨ho, _⟩ := own_of_row hown
  have hb1 : Below w.heap.size w w1 := (Below.refl _ _).grown hgrow (Nat.le_refl _) (fun k e => by simp at e)
  clear hown hgrow hi hz0 hz1 hz2 hx hn
  go_loopw [5] (fun s wr => ∃ (i : Nat) (zs : List Nat), i ≤ n ∧ s = .int .i64 i ∧ OwnU wr w.heap.size zs ∧ Bits n (fun a b => upto F i 0 b a) zs ∧ Below w.heap.size w wr) (fun s _ => n - (intOf s).toNat)
  case atStart => exact ⟨0, _, Nat.zero_le _, rfl, ho, (Bits.zero n).congr (fun a b _ _ => (upto_zero F b a).symm), hb1⟩
  case round =>
    clear ho hb1
    obtain ⟨i, zs, hin, rfl, ho, hbits, hb⟩ := hrel
    by_cases hlt : i < n
    · have hlt' : (i : Int) < (n : Int) := by omega
      go_wp2_with fail
      go_loopw [6] (fun t ws => ∃ (k : Nat) (ys' : List Nat), k ≤ n ∧ t = .int .i64 k ∧ OwnU ws w.heap.size ys' ∧ Bits n (fun a b => upto F i k b a) ys' ∧ Below w.heap.size w ws) (fun t _ => n - (intOf t).toNat)
      case atStart => exact ⟨0, zs, Nat.zero_le _, rfl, ho, hbits, hb⟩
      case round =>
        clear ho hbits hb
        obtain ⟨k, zs', hkn, rfl, ho, hbits, hb⟩ := hrel
        by_cases hk : k < n
        · have hk' : (k : Int) < (n : Int) := by omega
          have hsu := hu.below hb
          have hl := hbits.1
          cases hx : hasB xs i k
          all_goals
            go_wp2_with (first | (go_at_call 20; refine (refHas_any _ _ _ _ _ (by assumption)).mono ?_; rintro e w' ⟨rfl, hw⟩; subst w') | (go_at_call 36; rw [← hl]; refine (refPut_any _ _ _ _ _ _ ho hbits.2.1 (by omega) (by omega) (by omega)).mono ?_; rintro e w2 ⟨rfl, ho2, hg2⟩))
            try go_end0
            try go_wp2
            go_roundw
            case rel =>
              first
                | exact ⟨k + 1, _, by omega, by go_num, ho2, (hbits.put hk hlt n64).congr (fun a b _ _ => by rw [← upto_put (F := F) (i := i) (k := k) ((HF.out i k).trans hx) b a]; congr 1; rw [decide_eq_decide]; omega), below_own hb hg2 (Nat.le_refl _)⟩
                | exact ⟨k + 1, _, by omega, by go_num, ho, hbits.congr (fun a b _ _ => upto_skip ((HF.out i k).trans hx) b a), hb⟩
            case measure => simp [intOf]; omega
        · go_wp2_with fail
          go_roundw
          case rel =>
            have e : k = n := by omega
            subst e
            exact ⟨i + 1, zs', by omega, by go_num, ho, hbits.congr (fun a b ha _ => upto_row ha), hb⟩
          case measure => simp [intOf]; omega
    · go_wp2_with fail
      go_ret
      have e : i = n := by omega
      subst e
      exact ⟨w.heap.size, zs, by rw [hbits.1]; rfl, ho, hbits.congr (fun a b _ hb' => (upto_end hb').trans (HF.out b a)), Nat.le_refl _, hb⟩

set_option maxHeartbeats 1600000 in
theorem refThen_any (u v : Value) (xs ys : List Nat) (w : World) (hu : Sl w u xs) (hv : Sl w v ys) :
    Calls Tryd.prog 18 #[u, v] w fun e w' => ∃ g zs, e = .returned (.slice (some ⟨g, 0, none⟩) zs.length zs.length) ∧ OwnU w' g zs ∧ Bits (max (sz xs) (sz ys)) (viaB (fun i k => hasB xs i k) (fun i k => hasB ys i k) (max (sz xs) (sz ys))) zs ∧ w.heap.size ≤ g ∧ Below w.heap.size w w' := by
  obtain ⟨n, hn⟩ : ∃ n, max (sz xs) (sz ys) = n := ⟨_, rfl⟩
  have hx := sz_le xs
  have hy := sz_le ys
  have n64 : n ≤ 64 := by omega
  obtain ⟨A, hA⟩ : ∃ F : Nat → Nat → Bool, F = fun (i k : Nat) => hasB xs i k := ⟨_, rfl⟩
  obtain ⟨B, hB⟩ : ∃ F : Nat → Nat → Bool, F = fun (i k : Nat) => hasB ys i k := ⟨_, rfl⟩
  obtain ⟨i0, hi, hz0, hz1, hz2⟩ := info_parts Tryd.info43
  rw [hn, ← hA, ← hB]
  have HA : Hid (∀ i k : Nat, A i k = hasB xs i k) := fun i k => by rw [hA]
  have HB : Hid (∀ i k : Nat, B i k = hasB ys i k) := fun i k => by rw [hB]
  clear hA hB
  go_enter Tryd.func18, Tryd.ntmps18
  go_wp2_with (first | (go_at_call 35; refine (refMost_any _ _ _ _ _ hu hv).mono ?_; rintro e w' ⟨rfl, hw⟩; subst w') | (at_make; refine wpList_make_full _ rfl (.tmp 13) (.tmp 13) 23 rfl w.heap.size 43 i0 (.int .u64 0) 1 Tryd.underlying23 hi hz0 hz1 .i64 .i64 _ _ n rfl rfl rfl rfl (by rw [hz2]; omega) (by unfold maxLen; omega) (Nat.le_refl _) ?_; intro w1 hown hgrow))
  obtain ⟨ho, _⟩ := own_of_row hown
  have hb1 : Below w.heap.size w w1 := (Below.refl _ _).grown hgrow (Nat.le_refl _) (fun k e => by simp at e)
  clear hown hgrow hi hz0 hz1 hz2 hx hy hn
  go_loopw [7] (fun s wr => ∃ (i : Nat) (zs : List Nat), i ≤ n ∧ s = .int .i64 i ∧ OwnU wr w.heap.size zs ∧ Bits n (viaG A B n i 0 0) zs ∧ Below w.heap.size w wr) (fun s _ => n - (intOf s).toNat)
  case atStart => exact ⟨0, _, Nat.zero_le _, rfl, ho, (Bits.zero n).congr (fun a b _ _ => (viaG_zero A B n a b).symm), hb1⟩
  case round =>
    clear ho hb1
    obtain ⟨i, zs, hin, rfl, ho, hbits, hb⟩ := hrel
    by_cases hlt : i < n
    · have hlt' : (i : Int) < (n : Int) := by omega
      go_wp2_with fail
      go_loopw [8] (fun t ws => ∃ (j : Nat) (zs : List Nat), j ≤ n ∧ t = .int .i64 j ∧ OwnU ws w.heap.size zs ∧ Bits n (viaG A B n i j 0) zs ∧ Below w.heap.size w ws) (fun t _ => n - (intOf t).toNat)
      case atStart => exact ⟨0, zs, Nat.zero_le _, rfl, ho, hbits, hb⟩
      case round =>
        clear ho hbits hb
        obtain ⟨j, zs', hjn, rfl, ho, hbits, hb⟩ := hrel
        by_cases hj : j < n
        · have hj' : (j : Int) < (n : Int) := by omega
          have hsu := hu.below hb
          cases hx : hasB xs i j
          · go_wp2_with (first | (go_at_call 20; refine (refHas_any _ _ _ _ _ hsu).mono ?_; rintro e w' ⟨rfl, hw⟩; subst w'))
            go_roundw
            case rel => exact ⟨j + 1, _, by omega, by go_num, ho, hbits.congr (fun a b _ _ => viaG_none ((HA.out i j).trans hx) a b), hb⟩
            case measure => simp [intOf]; omega
          · go_wp2_with (first | (go_at_call 20; refine (refHas_any _ _ _ _ _ hsu).mono ?_; rintro e w' ⟨rfl, hw⟩; subst w'))
            go_loopw [9] (fun t ws => ∃ (k : Nat) (zs : List Nat), k ≤ n ∧ t = .int .i64 k ∧ OwnU ws w.heap.size zs ∧ Bits n (viaG A B n i j k) zs ∧ Below w.heap.size w ws) (fun t _ => n - (intOf t).toNat)
            case atStart => exact ⟨0, zs', Nat.zero_le _, rfl, ho, hbits, hb⟩
            case round =>
              clear ho hbits hb hsu
              obtain ⟨k, zs2, hkn, rfl, ho, hbits, hb⟩ := hrel
              by_cases hk : k < n
              · have hk' : (k : Int) < (n : Int) := by omega
                have hsv := hv.below hb
                have hl := hbits.1
                cases hy : hasB ys j k
                all_goals
                  go_wp2_with (first | (go_at_call 20; refine (refHas_any _ _ _ _ _ hsv).mono ?_; rintro e w' ⟨rfl, hw⟩; subst w') | (go_at_call 36; rw [← hl]; refine (refPut_any _ _ _ _ _ _ ho hbits.2.1 (by omega) (by omega) (by omega)).mono ?_; rintro e w2 ⟨rfl, ho2, hg2⟩))
                  try go_end0
                  try go_wp2
                  go_roundw
                  case rel =>
                    first
                      | exact ⟨k + 1, _, by omega, by go_num, ho2, (hbits.put hlt hk n64).congr (fun a b _ _ => viaG_put ((HA.out i j).trans hx) ((HB.out j k).trans hy) a b), below_own hb hg2 (Nat.le_refl _)⟩
                      | exact ⟨k + 1, _, by omega, by go_num, ho, hbits.congr (fun a b _ _ => viaG_skip ((HB.out j k).trans hy) a b), hb⟩
                  case measure => simp [intOf]; omega
              · go_wp2_with fail
                go_roundw
                case rel =>
                  have e : k = n := by omega
                  subst e
                  exact ⟨j + 1, zs2, by omega, by go_num, ho, hbits.congr (fun a b _ hb => viaG_next hb), hb⟩
                case measure => simp [intOf]; omega
        · go_wp2_with fail
          go_roundw
          case rel =>
            have e : j = n := by omega
            subst e
            exact ⟨i + 1, zs', by omega, by go_num, ho, hbits.congr (fun a b _ _ => viaG_row), hb⟩
          case measure => simp [intOf]; omega
    · go_wp2_with fail
      go_ret
      have e : i = n := by omega
      subst e
      exact ⟨w.heap.size, zs, by rw [hbits.1]; rfl, ho, hbits.congr (fun a b ha _ => viaG_end ha), Nat.le_refl _, hb⟩
end Go.Proofs.YtcfegclnkheebaaDoor
