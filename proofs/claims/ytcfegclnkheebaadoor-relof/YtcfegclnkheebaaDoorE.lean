/-
  The walks of Same and Copy of the document's own answers, and of the statements' few.
-/
import Derived.Test.YtcfegclnkheebaaDoorD
import Derived.Laws.AppendOwnNone
namespace Go.Proofs.YtcfegclnkheebaaDoor
open Go.RowKit

theorem Sl.at {w : World} {v : Value} {zs : List Nat} (h : Sl w v zs) {i : Nat} (hi : i < zs.length) : ∃ b off cap, v = .slice (some ⟨b, off, none⟩) zs.length cap ∧ w.cell? ⟨b, off + i, none⟩ = some (.int .u64 ((zs.getD i 0 : Nat) : Int)) := by
  obtain ⟨_, _, a, cap, rfl, h⟩ := h
  rcases h with h | ⟨b, off, rfl, _, e3⟩
  · rw [h] at hi; simp at hi
  · exact ⟨b, off, cap, rfl, e3 i hi⟩
theorem same_take {xs ys : List Nat} {i : Nat} (hl : xs.length = ys.length) (h : xs.take i = ys.take i) (hi : i < xs.length) (e : xs.getD i 0 = ys.getD i 0) : xs.take (i + 1) = ys.take (i + 1) := by
  have hi2 : i < ys.length := by omega
  rw [List.take_succ_eq_append_getElem hi, List.take_succ_eq_append_getElem hi2, h]
  have a : xs.getD i 0 = xs[i] := by simp [hi]
  have b : ys.getD i 0 = ys[i] := by simp [hi2]
  rw [← a, ← b, e]

set_option maxHeartbeats 800000 in
theorem refSame_any (u v : Value) (xs ys : List Nat) (w : World) (hu : Sl w u xs) (hv : Sl w v ys) :
    Calls Tryd.prog 12 #[u, v] w fun e w' => e = .returned (.bool (decide (xs = ys))) ∧ Below w.heap.size w w' := by
  have hul : ∃ a cap, u = .slice a xs.length cap := by obtain ⟨_, _, a, cap, e, _⟩ := hu; exact ⟨a, cap, e⟩
  have hvl : ∃ a cap, v = .slice a ys.length cap := by obtain ⟨_, _, a, cap, e, _⟩ := hv; exact ⟨a, cap, e⟩
  have lx := hu.2.1
  obtain ⟨a, ca, rfl⟩ := hul
  obtain ⟨b, cb, rfl⟩ := hvl
  by_cases hne : xs.length = ys.length
  · obtain ⟨n, hn⟩ : ∃ n, xs.length = n := ⟨_, rfl⟩
    have hn2 : ys.length = n := by omega
    have HN : Hid (xs.length = n ∧ ys.length = n) := ⟨hn, hn2⟩
    rw [hn] at hu
    rw [hn2] at hv
    rw [hn, hn2]
    rw [hn] at lx
    clear hne hn hn2
    go_enter Tryd.func12, Tryd.ntmps12
    go_wp2
    go_loopw [5] (fun s wr => ∃ (i : Nat), i ≤ n ∧ s = .int .i64 i ∧ Hid (xs.take i = ys.take i) ∧ Below w.heap.size w wr) (fun s _ => n - (intOf s).toNat)
    case atStart => exact ⟨0, Nat.zero_le _, rfl, rfl, Below.refl _ _⟩
    case round =>
      obtain ⟨i, hin, rfl, ht, hb⟩ := hrel
      by_cases hlt : i < n
      · have hlt' : (i : Int) < (n : Int) := by omega
        obtain ⟨b1, o1, cp1, e1, k1⟩ := (hu.below hb).at (i := i) (by have := HN.out.1; omega)
        obtain ⟨b2, o2, cp2, e2, k2⟩ := (hv.below hb).at (i := i) (by have := HN.out.2; omega)
        simp only [Value.slice.injEq] at e1 e2
        obtain ⟨rfl, _, _⟩ := e1
        obtain ⟨rfl, _, _⟩ := e2
        obtain ⟨x, hx⟩ : ∃ x, xs.getD i 0 = x := ⟨_, rfl⟩
        obtain ⟨y, hy⟩ : ∃ y, ys.getD i 0 = y := ⟨_, rfl⟩
        rw [hx] at k1
        rw [hy] at k2
        have HX : Hid (xs.getD i 0 = x ∧ ys.getD i 0 = y) := ⟨hx, hy⟩
        clear hx hy
        by_cases hxy : x = y
        · subst hxy
          go_wp2_with fail
          go_quiet (fail)
          go_wp2
          go_roundw
          case rel => exact ⟨i + 1, by omega, by go_num, same_take (HN.out.1.trans HN.out.2.symm) ht.out (by have := HN.out.1; omega) (HX.out.1.trans HX.out.2.symm), below_drewN hb _⟩
          case measure => simp [intOf]; omega
        · have hxb : ((x : Int) != (y : Int)) = true := by rw [bne_iff_ne]; omega
          go_wp2_with fail
          go_quiet (fail)
          go_wp2
          go_ret
          refine ⟨ret_bool ?_, below_drewN hb _⟩
          symm
          rw [decide_eq_false_iff_not]
          intro e
          apply hxy
          rw [← HX.out.1, ← HX.out.2, e]
      · go_wp2_with fail
        go_ret
        refine ⟨ret_bool ?_, hb⟩
        symm
        rw [decide_eq_true_iff]
        have e : i = n := by omega
        have t := ht.out
        rw [List.take_of_length_le (by rw [HN.out.1]; omega), List.take_of_length_le (by rw [HN.out.2]; omega)] at t
        exact t
  · have hne' : ((xs.length : Int) != (ys.length : Int)) = true := by rw [bne_iff_ne]; omega
    go_enter Tryd.func12, Tryd.ntmps12
    go_wp2
    go_ret
    refine ⟨ret_bool ?_, Below.refl _ _⟩
    symm
    rw [decide_eq_false_iff_not]
    intro e
    exact hne (by rw [e])

/-- The rows zs as values. -/
def vals (zs : List Nat) : List Value := zs.map fun (z : Nat) => Value.int .u64 (z : Int)
theorem vals_len (zs : List Nat) : (vals zs).length = zs.length := by simp [vals]
theorem vals_at {zs : List Nat} {j : Nat} {u : Value} (h : (vals zs)[j]? = some u) : j < zs.length ∧ u = .int .u64 ((zs.getD j 0 : Nat) : Int) := by
  have hj : j < (vals zs).length := by
    apply Nat.not_le.1
    intro hc
    rw [List.getElem?_eq_none hc] at h; simp at h
  rw [vals_len] at hj
  refine ⟨hj, ?_⟩
  simp [vals, hj] at h
  rw [← h]; simp [hj]
theorem Sl.ofRow {w : World} {base : Nat} {v : Value} {zs : List Nat} (h : w.ownsRow base 43 1 v zs.length (vals zs)) (f : Fits zs) (l : zs.length * 8 ≤ 140737488351232) : Sl w v zs := by
  refine ⟨f, l, ?_⟩
  rcases h.2 with ⟨rfl, h0⟩ | ⟨g, cap, cur, rfl, hb, hg, hnc, hcm, hcs, htake⟩
  · exact ⟨none, 0, by rw [h0], Or.inl (List.eq_nil_of_length_eq_zero h0)⟩
  · refine ⟨_, cap, rfl, Or.inr ⟨g, 0, rfl, lt_of_block hg, fun i hi => ?_⟩⟩
    have := h.cellAt i (by omega)
    rw [Nat.zero_add, this]
    simp [vals, hi]

set_option maxHeartbeats 800000 in
theorem refCopy_any (u : Value) (zs : List Nat) (w : World) (hu : Sl w u zs) (hz : ∀ len cap, u = .slice none len cap → cap = 0) :
    Calls Tryd.prog 11 #[u] w fun e w' => ∃ v', e = .returned v' ∧ w'.ownsRow w.heap.size 43 1 v' zs.length (vals zs) ∧ Below w.heap.size w w' := by
  obtain ⟨f, l, a, cap, rfl, h⟩ := hu
  obtain ⟨i0, hi, hz0, hz1, hz2⟩ := info_parts Tryd.info43
  have own0 : (w.alloc (.cells #[] 43)).ownsRow w.heap.size 43 1 (.slice (some ⟨w.heap.size, 0, none⟩) 0 0) 0 [] := World.ownsRow_lit (base := w.heap.size) (e := 43) (size := 1) w #[] 0 (Nat.le_refl _) (by unfold maxLen; omega) rfl
  have one : ∀ u ∈ vals zs, u.oneCell' = true := by
    intro u hu
    simp only [vals, List.mem_map] at hu
    obtain ⟨z, _, rfl⟩ := hu
    rfl
  cases a with
  | none =>
    have hz' := hz zs.length cap rfl
    have e0 : zs = [] := by
      rcases h with h | ⟨b, off, h, _⟩
      · exact h
      · simp at h
    subst e0
    subst hz'
    go_enter Tryd.func11, Tryd.ntmps11
    go_wp2_with (at_builtin; refine wpList_append_own_none rfl (.tmp 3) (.tmp 4) 23 rfl w.heap.size 43 i0 1 Tryd.underlying23 hi _ 0 [] rfl own0 rfl ?_)
    go_ret
    exact ⟨_, rfl, own0, (Below.refl _ _).alloc (Nat.le_refl _) _⟩
  | some ad =>
    have hnews : ∀ j u, (vals zs)[j]? = some u → (w.alloc (.cells #[] 43)).cell? (ad.add j) = some u := by
      intro j u hj
      obtain ⟨h1, rfl⟩ := vals_at hj
      rcases h with h | ⟨b, off, h, h2, h3⟩
      · rw [h] at h1; simp at h1
      · simp only [Option.some.injEq] at h
        subst h
        have := h3 j h1
        rw [← this]
        have ea : (⟨b, off, none⟩ : Addr).add j = ⟨b, off + j, none⟩ := by simp [Addr.add]
        rw [ea]
        exact World.cell?_alloc_lt (w := w) (o := .cells #[] 43) (a := ⟨b, off + j, none⟩) h2
    have hlen : (vals zs).length = zs.length * 1 := by rw [vals_len]; omega
    clear h
    go_enter Tryd.func11, Tryd.ntmps11
    go_wp2_with (at_builtin; refine wpList_append_own _ rfl (.tmp 3) (.tmp 4) 23 rfl w.heap.size 43 i0 (.int .u64 0) 1 8 Tryd.underlying23 hi hz0 hz1 hz2 rfl (by decide) _ 0 [] rfl own0 ad zs.length cap (vals zs) rfl hlen hnews one (by unfold maxLen; omega) (by omega) (by simp) ?_; intro v' w1 hown hgrow _)
    go_ret
    rw [Nat.zero_add, List.nil_append] at hown
    exact ⟨_, rfl, hown, ((Below.refl _ _).alloc (Nat.le_refl _) _).grown hgrow (by simp) (fun k e => by have e' : some w.heap.size = some k := e; rw [Option.some.injEq] at e'; omega)⟩
end Go.Proofs.YtcfegclnkheebaaDoor
