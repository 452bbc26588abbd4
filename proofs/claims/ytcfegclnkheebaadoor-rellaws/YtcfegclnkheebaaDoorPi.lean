/-
  The walk of the program's own Of.
-/
import Derived.Test.YtcfegclnkheebaaDoorPh
namespace Go.Proofs.YtcfegclnkheebaaDoor
open Go.RowKit

set_option maxHeartbeats 1600000 in
theorem of_of (n : Int) (v : Value) (ps : List (Int × Int)) (w : World) (hv : SlP w v ps) :
    Calls Tryd.prog 32 #[.int .i64 n, v] w fun e w' => Below w.heap.size w w' ∧ (((n < 0 ∨ 64 < n) ∧ e = .returned (.tuple #[.slice none 0 0, .int .i64 1])) ∨ (¬ (n < 0 ∨ 64 < n) ∧ (∃ p, p ∈ ps ∧ badP n p) ∧ e = .returned (.tuple #[.slice none 0 0, .int .i64 2])) ∨
      (¬ (n < 0 ∨ 64 < n) ∧ (¬ ∃ p, p ∈ ps ∧ badP n p) ∧ ∃ (g : Nat) (zs : List Nat), e = .returned (.tuple #[.slice (some ⟨g, 0, none⟩) zs.length zs.length, .int .i64 0]) ∧ OwnU w' g zs ∧ Bits n.toNat (ofF ps) zs ∧ w.heap.size ≤ g)) := by
  by_cases h0 : n < 0
  · have d0 : decide (n < 0) = true := by simpa using h0
    go_enter Tryd.func32, Tryd.ntmps32
    go_wp2
    go_ret2
    refine ⟨Below.refl _ _, ?_⟩
    first | exact Or.inl ⟨Or.inl h0, rfl⟩ | rfl
  · have d0 : decide (n < 0) = false := by simpa using h0
    by_cases h1 : 64 < n
    · go_enter Tryd.func32, Tryd.ntmps32
      go_wp2
      go_ret2
      refine ⟨Below.refl _ _, ?_⟩
      first | exact Or.inl ⟨Or.inr h1, rfl⟩ | rfl
    · have hno : ¬ (n < 0 ∨ 64 < n) := by omega
      obtain ⟨n, rfl⟩ := Int.eq_ofNat_of_zero_le (show 0 ≤ n by omega)
      have n64 : n ≤ 64 := by omega
      have n64' : ¬ (64 : Int) < (n : Int) := by omega
      obtain ⟨i0, hi, hz0, hz1, hz2⟩ := info_parts Tryd.info43
      obtain ⟨lp, hvl⟩ : ps.length * 16 ≤ 140737488351232 ∧ ∃ a cap, v = .slice a ps.length cap := by
        obtain ⟨l, a, cap, e, _⟩ := hv; exact ⟨l, a, cap, e⟩
      obtain ⟨a, cap, rfl⟩ := hvl
      have HNO : Hid (¬ ((n : Int) < 0 ∨ 64 < (n : Int))) := hno
      clear h0 h1 hno
      go_enter Tryd.func32, Tryd.ntmps32
      go_wp2_with (at_make; refine wpList_make_full _ rfl _ _ 23 rfl w.heap.size 43 i0 (.int .u64 0) 1 Tryd.underlying23 hi hz0 hz1 .i64 .i64 _ _ n rfl rfl rfl rfl (by rw [hz2]; omega) (by unfold maxLen; omega) (Nat.le_refl _) ?_; intro w1 hown hgrow)
      obtain ⟨ho, _⟩ := own_of_row hown
      have hb1 : Below w.heap.size w w1 := (Below.refl _ _).grown hgrow (Nat.le_refl _) (fun k e => by simp at e)
      clear hown hgrow hi hz0 hz1 hz2
      go_loopw [19] (fun s wr => ∃ (i : Nat) (zs : List Nat), i ≤ ps.length ∧ s = .int .i64 i ∧ OwnU wr w.heap.size zs ∧ Bits n (ofF (ps.take i)) zs ∧ Below w.heap.size w wr ∧ Hid (∀ p, p ∈ ps.take i → ¬ badP n p)) (fun s _ => ps.length - (intOf s).toNat)
      case atStart => exact ⟨0, _, Nat.zero_le _, rfl, ho, (Bits.zero n).congr (fun a b _ _ => by simp [ofF]), hb1, fun p hp => by simp at hp⟩
      case round =>
        clear ho hb1
        obtain ⟨i, zs, hin, rfl, ho, hbits, hb, hok⟩ := hrel
        by_cases hlt : i < ps.length
        · have hlt' : (i : Int) < (ps.length : Int) := by omega
          obtain ⟨b1, o1, cp1, e1, k1, k2⟩ := (hv.below hb).at (i := i) hlt
          simp only [Value.slice.injEq] at e1
          obtain ⟨rfl, -, rfl⟩ := e1
          have hmem : ps.getD i (0, 0) ∈ ps := by
            have : ps.getD i (0, 0) = ps[i] := by simp [hlt]
            rw [this]; exact List.getElem_mem hlt
          obtain ⟨x, hx⟩ : ∃ x, (ps.getD i (0, 0)).1 = x := ⟨_, rfl⟩
          obtain ⟨y, hy⟩ : ∃ y, (ps.getD i (0, 0)).2 = y := ⟨_, rfl⟩
          rw [hx] at k1
          rw [hy] at k2
          have HX : Hid ((ps.getD i (0, 0)).1 = x ∧ (ps.getD i (0, 0)).2 = y) := ⟨hx, hy⟩
          clear hx hy
          have bad : (x < 0 ∨ y < 0 ∨ (n : Int) ≤ x ∨ (n : Int) ≤ y) → ∃ p, p ∈ ps ∧ badP n p := fun h => ⟨_, hmem, by unfold badP; rw [HX.out.1, HX.out.2]; exact h⟩
          have BAD : Hid ((x < 0 ∨ y < 0 ∨ (n : Int) ≤ x ∨ (n : Int) ≤ y) → ∃ p, p ∈ ps ∧ badP n p) := bad
          clear bad hmem
          have hal : ∀ o, Below w.heap.size w (wr.alloc o) := fun o => hb.alloc hb.size o
          by_cases hxr : 0 ≤ x ∧ x < (n : Int)
          · have bx := fun w' => below_yes x n w' hxr.1 hxr.2
            by_cases hyr : 0 ≤ y ∧ y < (n : Int)
            · have by' := fun w' => below_yes y n w' hyr.1 hyr.2
              have hgood : Hid (¬ badP n (ps.getD i (0, 0))) := by
                show ¬ badP _ _
                unfold badP; rw [HX.out.1, HX.out.2]; omega
              obtain ⟨x, rfl⟩ := Int.eq_ofNat_of_zero_le hxr.1
              obtain ⟨y, rfl⟩ := Int.eq_ofNat_of_zero_le hyr.1
              have hxl : x < n := by omega
              have hyl : y < n := by omega
              have hxl' : (x : Int) < (n : Int) := by omega
              have y64 : y < 64 := by omega
              have hl := hbits.1
              have kc := ho.cell (i := x) (by omega)
              have fr := ho.free x
              have fq := hbits.2.1 x
              have rq := hbits.read hxl
              obtain ⟨q, hq⟩ : ∃ q, zs.getD x 0 = q := ⟨_, rfl⟩
              rw [hq] at kc fq rq
              obtain ⟨z, hz⟩ : ∃ z, z = 2 ^ y := ⟨_, rfl⟩
              have HZ : Hid (z = 2 ^ y) := hz
              have fz : z < 18446744073709551616 := by rw [hz]; exact pow_lt64 y64
              obtain ⟨t, ht⟩ : ∃ t, q ||| z = t := ⟨_, rfl⟩
              have e1 : bits .or .u64 (q : Int) (z : Int) = (t : Int) := by rw [bits_or_u64_nat q z fq fz, ht]
              have B2 : Hid (Bits n (ofF (ps.take (i + 1))) (zs.set x t)) := by
                refine (hbits.row (fun b => ofF (ps.take i) x b || decide (b = y)) hxl (by rw [← ht]; exact or_lt fq fz) (fun b => ?_)).congr (fun a b _ _ => ?_)
                · rw [← ht, Nat.testBit_or, rq b, HZ.out, Nat.testBit_two_pow]
                  by_cases eb : b = y
                  · subst eb; rw [decide_eq_true hyl]; simp
                  · rw [decide_eq_false (show ¬ y = b from fun e => eb e.symm), decide_eq_false eb]; simp
                · rw [ofF_take hlt, HX.out.1, HX.out.2]
                  by_cases e : a = x
                  · subst e
                    rw [if_pos rfl]; congr 1
                    rw [decide_eq_decide]; omega
                  · rw [if_neg e, decide_eq_false (by omega)]; simp
              have OK2 : Hid (∀ p, p ∈ ps.take (i + 1) → ¬ badP n p) := fun p hp => by
                rw [List.take_succ_eq_append_getElem hlt] at hp
                rcases List.mem_append.1 hp with h | h
                · exact hok.out p h
                · simp only [List.mem_singleton] at h
                  have e : ps.getD i (0, 0) = ps[i] := by simp [hlt]
                  rw [h, ← e]; exact hgood.out
              have gl := ho.lt
              clear hxr hyr hgood hl hq hz ht rq
              go_wp2_with (first | (go_at_call_of 39 (Value.int .i64 (x : Int)); refine (bx _).mono ?_; rintro e w' ⟨rfl, hw⟩; subst w') | (go_at_call_of 39 (Value.int .i64 (y : Int)); refine (by' _).mono ?_; rintro e w' ⟨rfl, hw⟩; subst w'))
              obtain ⟨w2, hw2⟩ : ∃ w2 : World, w2 = { wr.alloc (Obj.cells #[Value.int IntKind.i64 (x : Int), Value.int IntKind.i64 (y : Int)] 45) with drawn := (wr.alloc (Obj.cells #[Value.int IntKind.i64 (x : Int), Value.int IntKind.i64 (y : Int)] 45)).drawn + 1 } := ⟨_, rfl⟩
              have hb' : Below w.heap.size w w2 := by rw [hw2]; exact below_drewN (hal _) 1
              have ho' : OwnU w2 w.heap.size zs := by rw [hw2]; exact ho.alloc _
              have kk0 : (wr.alloc (Obj.cells #[Value.int IntKind.i64 (x : Int), Value.int IntKind.i64 (y : Int)] 45)).cell? ⟨wr.heap.size, 0, none⟩ = some (.int .i64 (x : Int)) := by go_simp
              have kk1 : (wr.alloc (Obj.cells #[Value.int IntKind.i64 (x : Int), Value.int IntKind.i64 (y : Int)] 45)).cell? ⟨wr.heap.size, 1, none⟩ = some (.int .i64 (y : Int)) := by go_simp
              have k0 : w2.cell? { block := wr.heap.size, off := 0 } = some (.int .i64 (x : Int)) := by rw [hw2]; exact kk0
              have k1' : w2.cell? { block := wr.heap.size, off := 1 } = some (.int .i64 (y : Int)) := by rw [hw2]; exact kk1
              have kc' : w2.cell? { block := w.heap.size, off := x } = some (.int .u64 (q : Int)) := by rw [hw2]; exact (World.cell?_alloc_lt (w := wr) _ (a := ⟨w.heap.size, x, none⟩) gl).trans kc
              have fr' : w2.frozen? { block := w.heap.size, off := x } = false := ho'.free x
              refine wp_region_still_tail 9 (by kernel_rfl) (by kernel_rfl) ?_
              rw [← hw2]
              clear hw2 kc fr ho hb k1 k2 hal gl kk0 kk1
              have O1 := ho'.store x t
              have L : Below w.heap.size w (w2.setCell ⟨w.heap.size, x, none⟩ (.int .u64 (t : Int))) := below_set hb' (Nat.le_refl _)
              simp only [List.take_succ_cons, List.take_zero, List.drop_succ_cons, List.drop_zero]
              repeat (first | still_step | (refine wpStill_step (fun K hK => ?_); go_simp; refine ⟨_, bit_of y z _ y64 HZ, hK _ ?_⟩; clear hK K))
              refine wpStill_nil ?_
              go_wp2_with fail
              go_roundw
              case rel => exact ⟨i + 1, _, by omega, by go_num, O1, B2.out, L, OK2⟩
              case measure => simp [intOf]; omega
            · have by' := fun w' => below_no y n w' hyr
              have E : Hid (∃ p, p ∈ ps ∧ badP n p) := BAD.out (by omega)
              clear hxr hyr
              go_wp2_with (first | (go_at_call_of 39 (Value.int .i64 x); refine (bx _).mono ?_; rintro e w' ⟨rfl, hw⟩; subst w') | (go_at_call_of 39 (Value.int .i64 y); refine (by' _).mono ?_; rintro e w' ⟨rfl, hw⟩; subst w'))
              go_ret2
              exact ⟨hal _, Or.inr (Or.inl ⟨HNO.out, E.out, rfl⟩)⟩
          · have bx := fun w' => below_no x n w' hxr
            have E : Hid (∃ p, p ∈ ps ∧ badP n p) := BAD.out (by omega)
            clear hxr
            go_wp2_with (first | (go_at_call_of 39 (Value.int .i64 x); refine (bx _).mono ?_; rintro e w' ⟨rfl, hw⟩; subst w'))
            go_ret2
            exact ⟨hal _, Or.inr (Or.inl ⟨HNO.out, E.out, rfl⟩)⟩
        · go_wp2_with fail
          go_ret2
          have e : i = ps.length := by omega
          subst e
          have hok' := hok.out
          rw [List.take_length] at hok' hbits
          exact ⟨hb, Or.inr (Or.inr ⟨HNO.out, fun ⟨p, hp, hbd⟩ => hok' p hp hbd, w.heap.size, zs, by rw [hbits.1]; rfl, ho, hbits, Nat.le_refl _⟩)⟩
end Go.Proofs.YtcfegclnkheebaaDoor
