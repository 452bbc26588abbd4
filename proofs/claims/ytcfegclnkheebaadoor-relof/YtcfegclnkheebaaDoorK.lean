/-
  The walks of SameInts and Of of the document's own answers.
-/
import Derived.Test.YtcfegclnkheebaaDoorJ
namespace Go.Proofs.YtcfegclnkheebaaDoor
open Go.RowKit

/-- The value v is a slice of the numbers ns in the world w. -/
def SlI (w : World) (v : Value) (ns : List Nat) : Prop :=
  ns.length * 8 ≤ 140737488351232 ∧ ∃ a cap, v = .slice a ns.length cap ∧ (ns = [] ∨ ∃ b off, a = some ⟨b, off, none⟩ ∧ b < w.heap.size ∧ ∀ i, i < ns.length → w.cell? ⟨b, off + i, none⟩ = some (.int .i64 ((ns.getD i 0 : Nat) : Int)))
theorem SlI.below {w w' : World} {v : Value} {zs : List Nat} (h : SlI w v zs) (hb : Below w.heap.size w w') : SlI w' v zs := by
  obtain ⟨l, a, cap, e, h⟩ := h
  refine ⟨l, a, cap, e, ?_⟩
  rcases h with h | ⟨b, off, e1, e2, e3⟩
  · exact Or.inl h
  · exact Or.inr ⟨b, off, e1, Nat.lt_of_lt_of_le e2 hb.size, fun i hi => (hb.cell (p := ⟨b, off + i, none⟩) e2).trans (e3 i hi)⟩
theorem SlI.at {w : World} {v : Value} {zs : List Nat} (h : SlI w v zs) {i : Nat} (hi : i < zs.length) : ∃ b off cap, v = .slice (some ⟨b, off, none⟩) zs.length cap ∧ w.cell? ⟨b, off + i, none⟩ = some (.int .i64 ((zs.getD i 0 : Nat) : Int)) := by
  obtain ⟨_, a, cap, rfl, h⟩ := h
  rcases h with h | ⟨b, off, rfl, _, e3⟩
  · rw [h] at hi; simp at hi
  · exact ⟨b, off, cap, rfl, e3 i hi⟩
theorem Que.sl {w : World} {base : Nat} {v : Value} {ns : List Nat} (h : Que w base v ns) (l : ns.length * 8 ≤ 140737488351232) : SlI w v ns := by
  refine ⟨l, ?_⟩
  have hc := fun j (hj : j < ns.length) => h.cell hj
  obtain ⟨ao, cap, rfl, h⟩ := h
  refine ⟨ao, cap, rfl, ?_⟩
  rcases h with ⟨_, h⟩ | ⟨b, off, cur, rfl, e2, e3, e4, e5, e6⟩
  · exact Or.inl h
  · refine Or.inr ⟨b, off, rfl, lt_of_block e3, fun i hi => ?_⟩
    obtain ⟨b', off', cap', e, hcell, _⟩ := hc i hi
    simp only [Value.slice.injEq, Option.some.injEq, Addr.mk.injEq, and_true, true_and] at e
    obtain ⟨⟨rfl, rfl⟩, _⟩ := e
    exact hcell
theorem SlI.nil (w : World) : SlI w (.slice none 0 0) [] := ⟨by simp, none, 0, rfl, Or.inl rfl⟩

set_option maxHeartbeats 800000 in
theorem refSameInts_any (u v : Value) (xs ys : List Nat) (w : World) (hu : SlI w u xs) (hv : SlI w v ys) :
    Calls Tryd.prog 31 #[u, v] w fun e w' => e = .returned (.bool (decide (xs = ys))) ∧ Below w.heap.size w w' := by
  have hul : ∃ a cap, u = .slice a xs.length cap := by obtain ⟨_, a, cap, e, _⟩ := hu; exact ⟨a, cap, e⟩
  have hvl : ∃ a cap, v = .slice a ys.length cap := by obtain ⟨_, a, cap, e, _⟩ := hv; exact ⟨a, cap, e⟩
  have lx := hu.1
  obtain ⟨a, ca, rfl⟩ := hul
  obtain ⟨b, cb, rfl⟩ := hvl
  by_cases hne : xs.length = ys.length
  · obtain ⟨n, hn⟩ : ∃ n, xs.length = n := ⟨_, rfl⟩
    have hn2 : ys.length = n := by omega
    have HN : Hid (xs.length = n ∧ ys.length = n) := ⟨hn, hn2⟩
    rw [hn] at hu
    rw [hn2] at hv
    rw [hn, hn2]
    rw [hn] at lx
    clear hne hn hn2
    go_enter Tryd.func31, Tryd.ntmps31
    go_wp2
    go_loopw [5] (fun s wr => ∃ (i : Nat), i ≤ n ∧ s = .int .i64 i ∧ Hid (xs.take i = ys.take i) ∧ Below w.heap.size w wr) (fun s _ => n - (intOf s).toNat)
    case atStart => exact ⟨0, Nat.zero_le _, rfl, rfl, Below.refl _ _⟩
    case round =>
      obtain ⟨i, hin, rfl, ht, hb⟩ := hrel
      by_cases hlt : i < n
      · have hlt' : (i : Int) < (n : Int) := by omega
        obtain ⟨b1, o1, cp1, e1, k1⟩ := (hu.below hb).at (i := i) (by have := HN.out.1; omega)
        obtain ⟨b2, o2, cp2, e2, k2⟩ := (hv.below hb).at (i := i) (by have := HN.out.2; omega)
        simp only [Value.slice.injEq] at e1 e2
        obtain ⟨rfl, _, _⟩ := e1
        obtain ⟨rfl, _, _⟩ := e2
        obtain ⟨x, hx⟩ : ∃ x, xs.getD i 0 = x := ⟨_, rfl⟩
        obtain ⟨y, hy⟩ : ∃ y, ys.getD i 0 = y := ⟨_, rfl⟩
        rw [hx] at k1
        rw [hy] at k2
        have HX : Hid (xs.getD i 0 = x ∧ ys.getD i 0 = y) := ⟨hx, hy⟩
        clear hx hy
        by_cases hxy : x = y
        · subst hxy
          go_wp2_with fail
          go_quiet (fail)
          go_wp2
          go_roundw
          case rel => exact ⟨i + 1, by omega, by go_num, same_take (HN.out.1.trans HN.out.2.symm) ht.out (by have := HN.out.1; omega) (HX.out.1.trans HX.out.2.symm), below_drewN hb _⟩
          case measure => simp [intOf]; omega
        · have hxb : ((x : Int) != (y : Int)) = true := by rw [bne_iff_ne]; omega
          go_wp2_with fail
          go_quiet (fail)
          go_wp2
          go_ret
          refine ⟨ret_bool ?_, below_drewN hb _⟩
          symm
          rw [decide_eq_false_iff_not]
          intro e
          apply hxy
          rw [← HX.out.1, ← HX.out.2, e]
      · go_wp2_with fail
        go_ret
        refine ⟨ret_bool ?_, hb⟩
        symm
        rw [decide_eq_true_iff]
        have t := ht.out
        rw [List.take_of_length_le (by rw [HN.out.1]; omega), List.take_of_length_le (by rw [HN.out.2]; omega)] at t
        exact t
  · have hne' : ((xs.length : Int) != (ys.length : Int)) = true := by rw [bne_iff_ne]; omega
    go_enter Tryd.func31, Tryd.ntmps31
    go_wp2
    go_ret
    refine ⟨ret_bool ?_, Below.refl _ _⟩
    symm
    rw [decide_eq_false_iff_not]
    intro e
    exact hne (by rw [e])

/-- The value v is a slice of the pairs ps in the world w. -/
def SlP (w : World) (v : Value) (ps : List (Int × Int)) : Prop :=
  ps.length * 16 ≤ 140737488351232 ∧ ∃ a cap, v = .slice a ps.length cap ∧ (ps = [] ∨ ∃ b off, a = some ⟨b, off, none⟩ ∧ b < w.heap.size ∧ ∀ i, i < ps.length → w.cell? ⟨b, off + i * 2, none⟩ = some (.int .i64 (ps.getD i (0, 0)).1) ∧ w.cell? ⟨b, off + i * 2 + 1, none⟩ = some (.int .i64 (ps.getD i (0, 0)).2))
theorem SlP.below {w w' : World} {v : Value} {zs : List (Int × Int)} (h : SlP w v zs) (hb : Below w.heap.size w w') : SlP w' v zs := by
  obtain ⟨l, a, cap, e, h⟩ := h
  refine ⟨l, a, cap, e, ?_⟩
  rcases h with h | ⟨b, off, e1, e2, e3⟩
  · exact Or.inl h
  · exact Or.inr ⟨b, off, e1, Nat.lt_of_lt_of_le e2 hb.size, fun i hi => ⟨(hb.cell (p := ⟨b, off + i * 2, none⟩) e2).trans (e3 i hi).1, (hb.cell (p := ⟨b, off + i * 2 + 1, none⟩) e2).trans (e3 i hi).2⟩⟩
theorem SlP.at {w : World} {v : Value} {zs : List (Int × Int)} (h : SlP w v zs) {i : Nat} (hi : i < zs.length) : ∃ b off cap, v = .slice (some ⟨b, off, none⟩) zs.length cap ∧ w.cell? ⟨b, off + i * 2, none⟩ = some (.int .i64 (zs.getD i (0, 0)).1) ∧ w.cell? ⟨b, off + i * 2 + 1, none⟩ = some (.int .i64 (zs.getD i (0, 0)).2) := by
  obtain ⟨_, a, cap, rfl, h⟩ := h
  rcases h with h | ⟨b, off, rfl, _, e3⟩
  · rw [h] at hi; simp at hi
  · exact ⟨b, off, cap, rfl, (e3 i hi).1, (e3 i hi).2⟩
/-- Does a stand to b by one of the pairs? -/
def ofF (ps : List (Int × Int)) (a b : Nat) : Bool := ps.any fun p => decide (p.1 = (a : Int) ∧ p.2 = (b : Int))
/-- A pair that may not be. -/
def badP (n : Int) (p : Int × Int) : Prop := p.1 < 0 ∨ p.2 < 0 ∨ n ≤ p.1 ∨ n ≤ p.2
theorem ofF_take {ps : List (Int × Int)} {i : Nat} (hi : i < ps.length) (a b : Nat) : ofF (ps.take (i + 1)) a b = (ofF (ps.take i) a b || decide ((ps.getD i (0, 0)).1 = (a : Int) ∧ (ps.getD i (0, 0)).2 = (b : Int))) := by
  unfold ofF
  rw [List.take_succ_eq_append_getElem hi, List.any_append]
  have : ps.getD i (0, 0) = ps[i] := by simp [hi]
  rw [this]; simp

set_option maxHeartbeats 1600000 in
theorem refOf_any (n : Int) (v : Value) (ps : List (Int × Int)) (w : World) (hv : SlP w v ps) :
    Calls Tryd.prog 33 #[.int .i64 n, v] w fun e w' => Below w.heap.size w w' ∧ (((n < 0 ∨ 64 < n) ∧ e = .returned (.tuple #[.slice none 0 0, .int .i64 1])) ∨ (¬ (n < 0 ∨ 64 < n) ∧ (∃ p, p ∈ ps ∧ badP n p) ∧ e = .returned (.tuple #[.slice none 0 0, .int .i64 2])) ∨
      (¬ (n < 0 ∨ 64 < n) ∧ (¬ ∃ p, p ∈ ps ∧ badP n p) ∧ ∃ (g : Nat) (zs : List Nat), e = .returned (.tuple #[.slice (some ⟨g, 0, none⟩) zs.length zs.length, .int .i64 0]) ∧ OwnU w' g zs ∧ Bits n.toNat (ofF ps) zs ∧ w.heap.size ≤ g)) := by
  by_cases h0 : n < 0
  · have d0 : decide (n < 0) = true := by simpa using h0
    go_enter Tryd.func33, Tryd.ntmps33
    go_wp2
    go_ret2
    refine ⟨Below.refl _ _, ?_⟩
    first | exact Or.inl ⟨Or.inl h0, rfl⟩ | rfl
  · have d0 : decide (n < 0) = false := by simpa using h0
    by_cases h1 : 64 < n
    · go_enter Tryd.func33, Tryd.ntmps33
      go_wp2
      go_ret2
      refine ⟨Below.refl _ _, ?_⟩
      first | exact Or.inl ⟨Or.inr h1, rfl⟩ | rfl
    · have hno : ¬ (n < 0 ∨ 64 < n) := by omega
      obtain ⟨n, rfl⟩ := Int.eq_ofNat_of_zero_le (show 0 ≤ n by omega)
      have n64 : n ≤ 64 := by omega
      have n64' : ¬ (64 : Int) < (n : Int) := by omega
      obtain ⟨i0, hi, hz0, hz1, hz2⟩ := info_parts Tryd.info43
      obtain ⟨lp, hvl⟩ : ps.length * 16 ≤ 140737488351232 ∧ ∃ a cap, v = .slice a ps.length cap := by
        obtain ⟨l, a, cap, e, _⟩ := hv; exact ⟨l, a, cap, e⟩
      obtain ⟨a, cap, rfl⟩ := hvl
      have HNO : Hid (¬ ((n : Int) < 0 ∨ 64 < (n : Int))) := hno
      clear h0 h1 hno
      go_enter Tryd.func33, Tryd.ntmps33
      go_wp2_with (at_make; refine wpList_make_full _ rfl (.tmp 16) (.tmp 16) 23 rfl w.heap.size 43 i0 (.int .u64 0) 1 Tryd.underlying23 hi hz0 hz1 .i64 .i64 _ _ n rfl rfl rfl rfl (by rw [hz2]; omega) (by unfold maxLen; omega) (Nat.le_refl _) ?_; intro w1 hown hgrow)
      obtain ⟨ho, _⟩ := own_of_row hown
      have hb1 : Below w.heap.size w w1 := (Below.refl _ _).grown hgrow (Nat.le_refl _) (fun k e => by simp at e)
      clear hown hgrow hi hz0 hz1 hz2
      go_loopw [7] (fun s wr => ∃ (i : Nat) (zs : List Nat), i ≤ ps.length ∧ s = .int .i64 i ∧ OwnU wr w.heap.size zs ∧ Bits n (ofF (ps.take i)) zs ∧ Below w.heap.size w wr ∧ Hid (∀ p, p ∈ ps.take i → ¬ badP n p)) (fun s _ => ps.length - (intOf s).toNat)
      case atStart => exact ⟨0, _, Nat.zero_le _, rfl, ho, (Bits.zero n).congr (fun a b _ _ => by simp [ofF]), hb1, fun p hp => by simp at hp⟩
      case round =>
        clear ho hb1
        obtain ⟨i, zs, hin, rfl, ho, hbits, hb, hok⟩ := hrel
        by_cases hlt : i < ps.length
        · have hlt' : (i : Int) < (ps.length : Int) := by omega
          obtain ⟨b1, o1, cp1, e1, k1, k2⟩ := (hv.below hb).at (i := i) hlt
          simp only [Value.slice.injEq] at e1
          obtain ⟨rfl, _, rfl⟩ := e1
          have hmem : ps.getD i (0, 0) ∈ ps := by
            have : ps.getD i (0, 0) = ps[i] := by simp [hlt]
            rw [this]; exact List.getElem_mem hlt
          obtain ⟨x, hx⟩ : ∃ x, (ps.getD i (0, 0)).1 = x := ⟨_, rfl⟩
          obtain ⟨y, hy⟩ : ∃ y, (ps.getD i (0, 0)).2 = y := ⟨_, rfl⟩
          rw [hx] at k1
          rw [hy] at k2
          have HX : Hid ((ps.getD i (0, 0)).1 = x ∧ (ps.getD i (0, 0)).2 = y) := ⟨hx, hy⟩
          clear hx hy
          have bad : (x < 0 ∨ y < 0 ∨ (n : Int) ≤ x ∨ (n : Int) ≤ y) → ∃ p, p ∈ ps ∧ badP n p := fun h => ⟨_, hmem, by unfold badP; rw [HX.out.1, HX.out.2]; exact h⟩
          have BAD : Hid ((x < 0 ∨ y < 0 ∨ (n : Int) ≤ x ∨ (n : Int) ≤ y) → ∃ p, p ∈ ps ∧ badP n p) := bad
          clear bad hmem
          by_cases hx0 : x < 0
          · have d1 : decide (x < 0) = true := by simpa using hx0
            go_wp2_with fail
            go_quiet (fail)
            go_wp2
            go_ret2
            exact ⟨below_drewN hb _, Or.inr (Or.inl ⟨HNO.out, BAD.out (Or.inl hx0), rfl⟩)⟩
          · have d1 : decide (x < 0) = false := by simpa using hx0
            by_cases hy0 : y < 0
            · have d2 : decide (y < 0) = true := by simpa using hy0
              go_wp2_with fail
              go_quiet (fail)
              go_wp2
              go_ret2
              exact ⟨below_drewN hb _, Or.inr (Or.inl ⟨HNO.out, BAD.out (Or.inr (Or.inl hy0)), rfl⟩)⟩
            · have d2 : decide (y < 0) = false := by simpa using hy0
              by_cases hxn : (n : Int) ≤ x
              · go_wp2_with fail
                go_quiet (fail)
                go_wp2
                go_ret2
                exact ⟨below_drewN hb _, Or.inr (Or.inl ⟨HNO.out, BAD.out (Or.inr (Or.inr (Or.inl hxn))), rfl⟩)⟩
              · by_cases hyn : (n : Int) ≤ y
                · go_wp2_with fail
                  go_quiet (fail)
                  go_wp2
                  go_ret2
                  exact ⟨below_drewN hb _, Or.inr (Or.inl ⟨HNO.out, BAD.out (Or.inr (Or.inr (Or.inr hyn))), rfl⟩)⟩
                · obtain ⟨x, rfl⟩ := Int.eq_ofNat_of_zero_le (show 0 ≤ x by omega)
                  obtain ⟨y, rfl⟩ := Int.eq_ofNat_of_zero_le (show 0 ≤ y by omega)
                  have hl := hbits.1
                  have hxl : x < n := by omega
                  have hyl : y < n := by omega
                  have ho' : ∀ q, OwnU (wr.drewN q) w.heap.size zs := fun _ => ho
                  go_wp2_with fail
                  go_quiet (fail)
                  go_wp2_with (go_at_call 36; rw [← hl]; refine (refPut_any _ _ _ _ _ _ (ho' _) hbits.2.1 (by omega) (by omega) (by omega)).mono ?_; rintro e w2 ⟨rfl, ho2, hg2⟩)
                  go_roundw
                  case rel =>
                    refine ⟨i + 1, _, by omega, by go_num, ho2, (hbits.put hxl hyl n64).congr (fun a b _ _ => ?_), below_own (below_drewN hb _) hg2 (Nat.le_refl _), fun p hp => ?_⟩
                    · rw [ofF_take hlt, HX.out.1, HX.out.2]
                      congr 1
                      rw [decide_eq_decide]; omega
                    · rw [List.take_succ_eq_append_getElem hlt] at hp
                      rcases List.mem_append.1 hp with h | h
                      · exact hok.out p h
                      · simp only [List.mem_singleton] at h
                        have e : ps.getD i (0, 0) = ps[i] := by simp [hlt]
                        rw [h, ← e]
                        unfold badP
                        rw [HX.out.1, HX.out.2]
                        omega
                  case measure => simp [intOf]; omega
        · go_wp2_with fail
          go_ret2
          have e : i = ps.length := by omega
          subst e
          have hok' := hok.out
          rw [List.take_length] at hok' hbits
          exact ⟨hb, Or.inr (Or.inr ⟨HNO.out, fun ⟨p, hp, hbd⟩ => hok' p hp hbd, w.heap.size, zs, by rw [hbits.1]; rfl, ho, hbits, Nat.le_refl _⟩)⟩
end Go.Proofs.YtcfegclnkheebaaDoor
