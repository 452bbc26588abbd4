/-
  The walks of the program's own Plus, Star and Ring.
-/
import Derived.Test.YtcfegclnkheebaaDoorPf
namespace Go.Proofs.YtcfegclnkheebaaDoor
open Go.RowKit

set_option maxHeartbeats 1600000 in
theorem plus_of (u : Value) (xs : List Nat) (w : World) (hu : Sl w u xs) :
    Calls Tryd.prog 25 #[u] w fun e w' => ∃ (g : Nat) (zs : List Nat) (G : Nat → Nat → Bool), e = .returned (.slice (some ⟨g, 0, none⟩) zs.length zs.length) ∧ OwnU w' g zs ∧ Bits (sz xs) G zs ∧ (∀ a b, a < sz xs → b < sz xs → (G a b = true ↔ Way (fun i k => hasB xs i k) (sz xs) a b)) ∧ w.heap.size ≤ g ∧ Below w.heap.size w w' := by
  have hx := sz_le xs
  have T1 := size_of u xs w hu
  have T2 := laid_of u xs (sz xs) w hu (Nat.le_refl _) hx
  obtain ⟨n, hn⟩ : ∃ n, sz xs = n := ⟨_, rfl⟩
  obtain ⟨A, hA⟩ : ∃ F : Nat → Nat → Bool, F = fun (i k : Nat) => hasB xs i k := ⟨_, rfl⟩
  have HL : Hid (∀ a b : Nat, A a b = true → b < n) := fun a b h => by rw [hA] at h; rw [← hn]; exact (hasB_lt h).2
  rw [hn, ← hA] at T2 ⊢
  rw [hn] at T1 hx
  clear hA hn hu
  go_enter Tryd.func25, Tryd.ntmps25
  go_wp2_with (go_at_call 38; refine T1.mono ?_; rintro e w' ⟨rfl, hw⟩; subst w')
  refine T2.mono ?_
  rintro e w1 ⟨g, ps, rfl, ho, hbp, hg, hb⟩
  have lp := hbp.1
  rw [lp]
  clear T1 T2 lp
  go_wp2_with fail
  go_loopw [11] (fun s wr => ∃ (k : Nat) (zs : List Nat) (G : Nat → Nat → Bool), k ≤ n ∧ s = .int .i64 k ∧ OwnU wr g zs ∧ Bits n G zs ∧ Hid (Thru A n G k) ∧ Below w.heap.size w wr) (fun s _ => n - (intOf s).toNat)
  case atStart => exact ⟨0, ps, A, Nat.zero_le _, rfl, ho, hbp, Thru.first, hb⟩
  case round =>
    clear ho hbp hb
    obtain ⟨k, zs, G, hkn, rfl, ho, hbits, HT, hb⟩ := hrel
    by_cases hlk : k < n
    · have hlk' : (k : Int) < (n : Int) := by omega
      have k64 : k < 64 := by omega
      obtain ⟨z, hz⟩ : ∃ z, z = 2 ^ k := ⟨_, rfl⟩
      have HZ : Hid (z = 2 ^ k) := hz
      have fz : z < 18446744073709551616 := by rw [hz]; exact pow_lt64 k64
      clear hz
      go_wp2_with fail
      go_loopw [16] (fun s ws => ∃ (i : Nat) (zs : List Nat), i ≤ n ∧ s = .int .i64 i ∧ OwnU ws g zs ∧ Bits n (thruG G k i) zs ∧ Below w.heap.size w ws) (fun s _ => n - (intOf s).toNat)
      case atStart => exact ⟨0, zs, Nat.zero_le _, rfl, ho, hbits.congr (fun a b _ _ => (thruG_zero G k a b).symm), hb⟩
      case round =>
        clear ho hbits hb
        obtain ⟨i, zs, hin, rfl, ho, hbits, hb⟩ := hrel
        by_cases hlt : i < n
        · have hlt' : (i : Int) < (n : Int) := by omega
          have hl := hbits.1
          have fx := hbits.2.1 i
          have rx := hbits.read hlt
          have kx := ho.cell (i := i) (by omega)
          have fv := hbits.2.1 k
          have rv := hbits.read hlk
          have kv := ho.cell (i := k) (by omega)
          have fr := ho.free i
          obtain ⟨x, hx⟩ : ∃ x, zs.getD i 0 = x := ⟨_, rfl⟩
          obtain ⟨v, hv⟩ : ∃ v, zs.getD k 0 = v := ⟨_, rfl⟩
          rw [hx] at kx fx rx
          rw [hv] at kv fv rv
          clear hx hv hl
          obtain ⟨y, hy⟩ : ∃ y, x &&& z = y := ⟨_, rfl⟩
          have e1 : bits .and .u64 (x : Int) (z : Int) = (y : Int) := by rw [bits_and_u64_nat x z fx fz, hy]
          have e2 : ((y : Int) != 0) = G i k := by
            have := rx k
            rw [thruG_row, decide_eq_true hlk, Bool.true_and] at this
            rw [Bool.eq_iff_iff, ← this, ← nz_and, ← HZ.out, hy, bne_iff_ne]; omega
          clear hy
          cases hG : G i k
          · rw [hG] at e2
            have B2 : Hid (Bits n (thruG G k (i + 1)) zs) := hbits.congr (fun a b _ _ => thruG_no hG a b)
            clear hG rx rv
            go_wp2_with fail
            go_quiet ((go_at_call 40; exact Calls.quiet_of_same (bit_of k z _ k64 HZ)))
            go_wp2_with fail
            go_roundw
            case rel => exact ⟨i + 1, zs, by omega, by go_num, ho, B2.out, below_drewN hb _⟩
            case measure => simp [intOf]; omega
          · rw [hG] at e2
            obtain ⟨q, hq⟩ : ∃ q, x ||| v = q := ⟨_, rfl⟩
            have e3 : bits .or .u64 (x : Int) (v : Int) = (q : Int) := by rw [bits_or_u64_nat x v fx fv, hq]
            have B2 : Hid (Bits n (thruG G k (i + 1)) (zs.set i q)) := by
              refine (hbits.row (fun b => G i b || G k b) hlt (by rw [← hq]; exact or_lt fx fv) (fun b => ?_)).congr (fun a b _ _ => thruG_yes hG a b)
              rw [← hq, Nat.testBit_or, rx b, rv b, thruG_row, thruG_own]
              cases decide (b < n) <;> simp
            clear hG rx rv hq
            go_wp2_with fail
            go_quiet ((go_at_call 40; exact Calls.quiet_of_same (bit_of k z _ k64 HZ)))
            go_wp2_with fail
            obtain ⟨w3, hw3⟩ : ∃ w3 : World, w3 = { wr.drewN nq with drawn := (wr.drewN nq).drawn + 1 } := ⟨_, rfl⟩
            have kx' : w3.cell? { block := g, off := i } = some (.int .u64 x) := by rw [hw3]; exact kx
            have kv' : w3.cell? { block := g, off := k } = some (.int .u64 v) := by rw [hw3]; exact kv
            have fr' : w3.frozen? { block := g, off := i } = false := by rw [hw3]; exact fr
            have ho' : OwnU w3 g zs := by rw [hw3]; exact ho
            have hb' : Below w.heap.size w w3 := by rw [hw3]; exact below_drewN (below_drewN hb nq) 1
            refine wp_region_still_tail 9 (by kernel_rfl) (by kernel_rfl) ?_
            rw [← hw3]
            clear hw3 kx kv fr ho hb
            have O1 := ho'.store i q
            have L : Below w.heap.size w (w3.setCell ⟨g, i, none⟩ (.int .u64 (q : Int))) := below_set hb' hg
            simp only [List.take_succ_cons, List.take_zero, List.drop_succ_cons, List.drop_zero]
            repeat still_step
            refine wpStill_nil ?_
            go_wp2_with fail
            go_roundw
            case rel => exact ⟨i + 1, _, by omega, by go_num, O1, B2.out, L⟩
            case measure => simp [intOf]; omega
        · go_wp2_with fail
          go_roundw
          case rel =>
            have e : i = n := by omega
            subst e
            exact ⟨k + 1, zs, _, by omega, by go_num, ho, hbits, HT.out.next hlk, hb⟩
          case measure => simp [intOf]; omega
    · go_wp2_with fail
      go_ret
      have e : k = n := by omega
      subst e
      exact ⟨g, zs, G, by rw [hbits.1]; rfl, ho, hbits, fun a b ha hb => HT.out.fin HL.out a b ha hb, hg, hb⟩

/-- Rows ahead of i have their own number besides. -/
theorem self_next (G : Nat → Nat → Bool) (i a b : Nat) : (if a = i then G i b || decide (b = i) else G a b || (decide (a < i) && decide (a = b))) = (G a b || (decide (a < i + 1) && decide (a = b))) := by
  by_cases e : a = i
  · subst e
    rw [if_pos rfl, decide_eq_true (show a < a + 1 by omega), Bool.true_and]
    congr 1
    rw [decide_eq_decide]; omega
  · have : decide (a < i + 1) = decide (a < i) := by rw [decide_eq_decide]; omega
    rw [if_neg e, this]

set_option maxHeartbeats 1600000 in
theorem star_of (u : Value) (xs : List Nat) (w : World) (hu : Sl w u xs) :
    Calls Tryd.prog 27 #[u] w fun e w' => ∃ (g : Nat) (zs : List Nat) (G : Nat → Nat → Bool), e = .returned (.slice (some ⟨g, 0, none⟩) zs.length zs.length) ∧ OwnU w' g zs ∧ Bits (sz xs) (fun a b => G a b || decide (a = b)) zs ∧ (∀ a b, a < sz xs → b < sz xs → (G a b = true ↔ Way (fun i k => hasB xs i k) (sz xs) a b)) ∧ w.heap.size ≤ g ∧ Below w.heap.size w w' := by
  have hx := sz_le xs
  have T := plus_of u xs w hu
  obtain ⟨n, hn⟩ : ∃ n, sz xs = n := ⟨_, rfl⟩
  rw [hn] at T hx ⊢
  clear hn hu
  go_enter Tryd.func27, Tryd.ntmps27
  go_wp2_with fail
  refine T.mono ?_
  rintro e w1 ⟨g, ps, G, rfl, ho, hbp, hway, hg, hb⟩
  have HW : Hid (∀ a b, a < n → b < n → (G a b = true ↔ Way (fun i k => hasB xs i k) n a b)) := hway
  have lp := hbp.1
  rw [lp]
  clear T lp hway
  go_wp2_with fail
  go_loopw [8] (fun s wr => ∃ (i : Nat) (zs : List Nat), i ≤ n ∧ s = .int .i64 i ∧ OwnU wr g zs ∧ Bits n (fun a b => G a b || (decide (a < i) && decide (a = b))) zs ∧ Below w.heap.size w wr) (fun s _ => n - (intOf s).toNat)
  case atStart => exact ⟨0, ps, Nat.zero_le _, rfl, ho, hbp.congr (fun a b _ _ => by simp), hb⟩
  case round =>
    clear ho hbp hb
    obtain ⟨i, zs, hin, rfl, ho, hbits, hb⟩ := hrel
    by_cases hlt : i < n
    · have hlt' : (i : Int) < (n : Int) := by omega
      have hl := hbits.1
      have fx := hbits.2.1 i
      have rx := hbits.read hlt
      have kx := ho.cell (i := i) (by omega)
      have fr := ho.free i
      obtain ⟨x, hx⟩ : ∃ x, zs.getD i 0 = x := ⟨_, rfl⟩
      rw [hx] at kx fx rx
      have i64 : i < 64 := by omega
      obtain ⟨z, hz⟩ : ∃ z, z = 2 ^ i := ⟨_, rfl⟩
      have HZ : Hid (z = 2 ^ i) := hz
      have fz : z < 18446744073709551616 := by rw [hz]; exact pow_lt64 i64
      obtain ⟨q, hq⟩ : ∃ q, x ||| z = q := ⟨_, rfl⟩
      have e3 : bits .or .u64 (x : Int) (z : Int) = (q : Int) := by rw [bits_or_u64_nat x z fx fz, hq]
      have B2 : Hid (Bits n (fun a b => G a b || (decide (a < i + 1) && decide (a = b))) (zs.set i q)) := by
        refine (hbits.row (fun b => G i b || decide (b = i)) hlt (by rw [← hq]; exact or_lt fx fz) (fun b => ?_)).congr (fun a b _ _ => self_next G i a b)
        rw [← hq, Nat.testBit_or, rx b, HZ.out, Nat.testBit_two_pow, decide_eq_false (show ¬ i < i by omega)]
        by_cases eb : b = i
        · subst eb; rw [decide_eq_true hlt]; simp
        · rw [decide_eq_false (show ¬ i = b from fun e => eb e.symm), decide_eq_false eb]; simp
      clear hx hz hq hl rx
      go_wp2_with fail
      obtain ⟨w3, hw3⟩ : ∃ w3 : World, w3 = { wr with drawn := wr.drawn + 1 } := ⟨_, rfl⟩
      have kx' : w3.cell? { block := g, off := i } = some (.int .u64 x) := by rw [hw3]; exact kx
      have fr' : w3.frozen? { block := g, off := i } = false := by rw [hw3]; exact fr
      have ho' : OwnU w3 g zs := by rw [hw3]; exact ho
      have hb' : Below w.heap.size w w3 := by rw [hw3]; exact below_drewN hb 1
      refine wp_region_still_tail 7 (by kernel_rfl) (by kernel_rfl) ?_
      rw [← hw3]
      clear hw3 kx fr ho hb
      have O1 := ho'.store i q
      have L : Below w.heap.size w (w3.setCell ⟨g, i, none⟩ (.int .u64 (q : Int))) := below_set hb' hg
      simp only [List.take_succ_cons, List.take_zero, List.drop_succ_cons, List.drop_zero]
      repeat (first | still_step | (refine wpStill_step (fun K hK => ?_); go_simp; refine ⟨_, bit_of i z _ i64 HZ, hK _ ?_⟩; clear hK K))
      refine wpStill_nil ?_
      go_wp2_with fail
      go_roundw
      case rel => exact ⟨i + 1, _, by omega, by go_num, O1, B2.out, L⟩
      case measure => simp [intOf]; omega
    · go_wp2_with fail
      go_ret
      have e : i = n := by omega
      subst e
      exact ⟨g, zs, G, by rw [hbits.1]; rfl, ho, hbits.congr (fun a b ha _ => by rw [decide_eq_true ha, Bool.true_and]), HW.out, hg, hb⟩

set_option maxHeartbeats 1600000 in
theorem ring_of (u : Value) (xs : List Nat) (w : World) (hu : Sl w u xs) :
    Calls Tryd.prog 29 #[u] w fun e w' => ∃ r : Bool, e = .returned (.bool r) ∧ (r = true ↔ ∃ a, a < sz xs ∧ Way (fun i k => hasB xs i k) (sz xs) a a) ∧ Below w.heap.size w w' := by
  have hx := sz_le xs
  have T := plus_of u xs w hu
  obtain ⟨n, hn⟩ : ∃ n, sz xs = n := ⟨_, rfl⟩
  rw [hn] at T hx ⊢
  clear hn hu
  go_enter Tryd.func29, Tryd.ntmps29
  go_wp2_with fail
  refine T.mono ?_
  rintro e w1 ⟨g, ps, G, rfl, ho, hbp, hway, hg, hb⟩
  have HW : Hid (∀ a b, a < n → b < n → (G a b = true ↔ Way (fun i k => hasB xs i k) n a b)) := hway
  have lp := hbp.1
  rw [lp]
  clear T hway
  go_wp2_with fail
  go_loopw [8] (fun s wr => ∃ (i : Nat), i ≤ n ∧ s = .int .i64 i ∧ Hid (∀ a, a < i → G a a = false) ∧ wr = w1) (fun s _ => n - (intOf s).toNat)
  case atStart => exact ⟨0, Nat.zero_le _, rfl, fun a ha => by omega, rfl⟩
  case round =>
    obtain ⟨i, hin, rfl, HN, rfl⟩ := hrel
    by_cases hlt : i < n
    · have hlt' : (i : Int) < (n : Int) := by omega
      have fx := hbp.2.1 i
      have rx := hbp.read hlt
      have kx := ho.cell (i := i) (by omega)
      obtain ⟨x, hx⟩ : ∃ x, ps.getD i 0 = x := ⟨_, rfl⟩
      rw [hx] at kx fx rx
      have i64 : i < 64 := by omega
      obtain ⟨z, hz⟩ : ∃ z, z = 2 ^ i := ⟨_, rfl⟩
      have HZ : Hid (z = 2 ^ i) := hz
      have fz : z < 18446744073709551616 := by rw [hz]; exact pow_lt64 i64
      obtain ⟨y, hy⟩ : ∃ y, x &&& z = y := ⟨_, rfl⟩
      have e1 : bits .and .u64 (x : Int) (z : Int) = (y : Int) := by rw [bits_and_u64_nat x z fx fz, hy]
      have e2 : ((y : Int) != 0) = G i i := by
        have := rx i
        rw [decide_eq_true hlt, Bool.true_and] at this
        rw [Bool.eq_iff_iff, ← this, ← nz_and, ← HZ.out, hy, bne_iff_ne]; omega
      clear hx hz hy lp rx
      cases hG : G i i
      · rw [hG] at e2
        have N2 : Hid (∀ a, a < i + 1 → G a a = false) := fun a ha => by
          by_cases e : a = i
          · subst e; exact hG
          · exact HN.out a (by omega)
        clear hG
        go_wp2_with (go_at_call 40; refine (bit_of i z _ i64 HZ).mono ?_; rintro e w' ⟨rfl, hw⟩; subst w')
        go_roundw
        case rel => exact ⟨i + 1, by omega, by go_num, N2, trivial⟩
        case measure => simp [intOf]; omega
      · rw [hG] at e2
        have Y : Hid (∃ a, a < n ∧ Way (fun i k => hasB xs i k) n a a) := ⟨i, hlt, (HW.out i i hlt hlt).1 hG⟩
        clear hG
        go_wp2_with (go_at_call 40; refine (bit_of i z _ i64 HZ).mono ?_; rintro e w' ⟨rfl, hw⟩; subst w')
        go_ret
        exact ⟨true, rfl, ⟨fun _ => Y.out, fun _ => rfl⟩, hb⟩
    · go_wp2_with fail
      go_ret
      have e : i = n := by omega
      subst e
      refine ⟨false, rfl, ⟨fun h => by simp at h, fun ⟨a, ha, hw⟩ => ?_⟩, hb⟩
      have := (HW.out a a ha ha).2 hw
      rw [HN.out a ha] at this; simp at this
end Go.Proofs.YtcfegclnkheebaaDoor
