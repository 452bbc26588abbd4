/-
  The walks of most and Lay of the document's own answers.
-/
import Derived.Test.YtcfegclnkheebaaDoorB
import Derived.Test.YtcfegclnkheebaaDoorL
namespace Go.Proofs.YtcfegclnkheebaaDoor
open Go.RowKit

set_option maxHeartbeats 400000 in
theorem most_any (a b : Option Addr) (n m ca cb : Nat) (w : World) :
    Calls Tryd.prog 35 #[.slice a n ca, .slice b m cb] w fun e w' => e = .returned (.int .i64 (max (min n 64) (min m 64) : Nat)) ∧ w' = w := by
  by_cases h : min m 64 < min n 64
  · have h' : ((min m 64 : Nat) : Int) < ((min n 64 : Nat) : Int) := by omega
    go_enter Tryd.func35, Tryd.ntmps35
    go_wp2_with (go_at_call 41; refine (size_any _ _ _ _).mono ?_; rintro e w' ⟨rfl, rfl⟩)
    go_ret
    exact ⟨ret_int (by omega), rfl⟩
  · have h' : ¬ ((min m 64 : Nat) : Int) < ((min n 64 : Nat) : Int) := by omega
    go_enter Tryd.func35, Tryd.ntmps35
    go_wp2_with (go_at_call 41; refine (size_any _ _ _ _).mono ?_; rintro e w' ⟨rfl, rfl⟩)
    go_ret
    exact ⟨ret_int (by omega), rfl⟩
theorem refMost_any (u v : Value) (xs ys : List Nat) (w : World) (hu : Sl w u xs) (hv : Sl w v ys) :
    Calls Tryd.prog 35 #[u, v] w fun e w' => e = .returned (.int .i64 (max (sz xs) (sz ys) : Nat)) ∧ w' = w := by
  obtain ⟨_, _, a, ca, rfl, _⟩ := hu
  obtain ⟨_, _, b, cb, rfl, _⟩ := hv
  exact most_any a b _ _ ca cb w

theorem Tryd.info43 : (Tryd.prog.info? 43).map (fun i => (i.zero, i.size, i.bytes)) = some (some (.int .u64 0), 1, 8) := by kernel_rfl
theorem own_of_row {w : World} {base g n : Nat} (h : w.ownsRow base 43 1 (.slice (some ⟨g, 0, none⟩) n n) n (madeCells (Value.int .u64 0).cells (n * 1)).toList) : OwnU w g (List.replicate n 0) ∧ base ≤ g := by
  rcases h.2 with ⟨h', _⟩ | ⟨g', cap', cur, h', hb, hg, hnc, hcm, hcs, htake⟩
  · simp at h'
  · simp only [Value.slice.injEq, Option.some.injEq, Addr.mk.injEq, and_true, true_and] at h'
    obtain ⟨rfl, rfl⟩ := h'
    refine ⟨?_, hb⟩
    unfold OwnU
    rw [hg]
    congr 2
    have e1 : cur.toList = (madeCells (Value.int .u64 0).cells (n * 1)).toList := by
      rw [← htake, List.take_of_length_le (by simp [hcs])]
    have e2 : (madeCells (Value.int .u64 0).cells (n * 1)).toList = List.replicate n (Value.int .u64 0) := by
      rw [Nat.mul_one]; exact toList_madeCells_one _ _
    rw [e2] at e1
    apply Array.toList_inj.1
    rw [e1]; simp

/-- What is laid together of two: 0 the one or the other, 1 both, 2 the first alone. -/
def layF (how : Int) (xs ys : List Nat) (i k : Nat) : Bool := (how == 0 && (hasB xs i k || hasB ys i k)) || (how == 1 && hasB xs i k && hasB ys i k) || (how == 2 && hasB xs i k && !hasB ys i k)
theorem how_cases (how : Int) : ((how == 0) = true ∧ (how == 1) = false ∧ (how == 2) = false) ∨ ((how == 0) = false ∧ (how == 1) = true ∧ (how == 2) = false) ∨ ((how == 0) = false ∧ (how == 1) = false ∧ (how == 2) = true) ∨ ((how == 0) = false ∧ (how == 1) = false ∧ (how == 2) = false) := by
  by_cases h0 : how = 0
  · subst h0; exact Or.inl ⟨rfl, rfl, rfl⟩
  · by_cases h1 : how = 1
    · subst h1; exact Or.inr (Or.inl ⟨rfl, rfl, rfl⟩)
    · by_cases h2 : how = 2
      · subst h2; exact Or.inr (Or.inr (Or.inl ⟨rfl, rfl, rfl⟩))
      · exact Or.inr (Or.inr (Or.inr ⟨by simpa using h0, by simpa using h1, by simpa using h2⟩))
theorem below_own {w w1 w2 : World} {g : Nat} (h : Below w.heap.size w w1) (hg : w1.grownBy w2 (some g)) (hb : w.heap.size ≤ g) : Below w.heap.size w w2 :=
  h.grown hg h.size (fun k e => by simp at e; omega)
set_option maxHeartbeats 1600000 in
theorem refLay_any (u v : Value) (xs ys : List Nat) (how : Int) (w : World) (hu : Sl w u xs) (hv : Sl w v ys) :
    Calls Tryd.prog 14 #[u, v, .int .i64 how] w fun e w' => ∃ g zs, e = .returned (.slice (some ⟨g, 0, none⟩) zs.length zs.length) ∧ OwnU w' g zs ∧ Bits (max (sz xs) (sz ys)) (layF how xs ys) zs ∧ w.heap.size ≤ g ∧ Below w.heap.size w w' := by
  obtain ⟨n, hn⟩ : ∃ n, max (sz xs) (sz ys) = n := ⟨_, rfl⟩
  have hx := sz_le xs
  have hy := sz_le ys
  have n64 : n ≤ 64 := by omega
  obtain ⟨i0, hi, hz0, hz1, hz2⟩ := info_parts Tryd.info43
  rw [hn]
  go_enter Tryd.func14, Tryd.ntmps14
  go_wp2_with (first | (go_at_call 35; refine (refMost_any _ _ _ _ _ hu hv).mono ?_; rintro e w' ⟨rfl, hw⟩; subst w') | (at_make; refine wpList_make_full _ rfl (.tmp 16) (.tmp 16) 23 rfl w.heap.size 43 i0 (.int .u64 0) 1 Tryd.underlying23 hi hz0 hz1 .i64 .i64 _ _ n rfl rfl rfl rfl (by rw [hz2]; omega) (by unfold maxLen; omega) (Nat.le_refl _) ?_; intro w1 hown hgrow))
  obtain ⟨ho, _⟩ := own_of_row hown
  have hb1 : Below w.heap.size w w1 := (Below.refl _ _).grown hgrow (Nat.le_refl _) (fun k e => by simp at e)
  clear hown hgrow hi hz0 hz1 hz2 hx hy hn
  go_loopw [9] (fun s wr => ∃ (i : Nat) (zs : List Nat), i ≤ n ∧ s = .int .i64 i ∧ OwnU wr w.heap.size zs ∧ Bits n (upto (layF how xs ys) i 0) zs ∧ Below w.heap.size w wr) (fun s _ => n - (intOf s).toNat)
  case atStart => exact ⟨0, _, Nat.zero_le _, rfl, ho, (Bits.zero n).first _, hb1⟩
  case round =>
    clear ho hb1
    obtain ⟨i, zs, hin, rfl, ho, hbits, hb⟩ := hrel
    by_cases hlt : i < n
    · have hlt' : (i : Int) < (n : Int) := by omega
      go_wp2_with fail
      go_loopw [10] (fun t ws => ∃ (k : Nat) (ys' : List Nat), k ≤ n ∧ t = .int .i64 k ∧ OwnU ws w.heap.size ys' ∧ Bits n (upto (layF how xs ys) i k) ys' ∧ Below w.heap.size w ws) (fun t _ => n - (intOf t).toNat)
      case atStart => exact ⟨0, zs, Nat.zero_le _, rfl, ho, hbits, hb⟩
      case round =>
        clear ho hbits hb
        obtain ⟨k, zs', hkn, rfl, ho, hbits, hb⟩ := hrel
        by_cases hk : k < n
        · have hk' : (k : Int) < (n : Int) := by omega
          have hsu := hu.below hb
          have hsv := hv.below hb
          have hl := hbits.1
          rcases how_cases how with ⟨q0, q1, q2⟩ | ⟨q0, q1, q2⟩ | ⟨q0, q1, q2⟩ | ⟨q0, q1, q2⟩
          all_goals
            cases hx : hasB xs i k
            all_goals
              cases hy : hasB ys i k
              all_goals
                go_wp2_with (first | (go_at_call 20; refine (refHas_any _ _ _ _ _ (by assumption)).mono ?_; rintro e w' ⟨rfl, hw⟩; subst w') | (go_at_call 36; rw [← hl]; refine (refPut_any _ _ _ _ _ _ ho hbits.2.1 (by omega) (by omega) (by omega)).mono ?_; rintro e w2 ⟨rfl, ho2, hg2⟩))
                try go_end0
                try go_wp2
                go_roundw
                case rel =>
                  first
                    | exact ⟨k + 1, _, by omega, by go_num, ho2, hbits.fput (by unfold layF; rw [hx, hy, q0, q1, q2]; rfl) hlt hk n64, below_own hb hg2 (Nat.le_refl _)⟩
                    | exact ⟨k + 1, _, by omega, by go_num, ho, hbits.fskip (by unfold layF; rw [hx, hy, q0, q1, q2]; rfl), hb⟩
                case measure => simp [intOf]; omega
        · go_wp2_with fail
          go_roundw
          case rel =>
            have e : k = n := by omega
            subst e
            exact ⟨i + 1, zs', by omega, by go_num, ho, hbits.frow, hb⟩
          case measure => simp [intOf]; omega
    · go_wp2_with fail
      go_ret
      have e : i = n := by omega
      subst e
      exact ⟨w.heap.size, zs, by rw [hbits.1]; rfl, ho, hbits.fend, Nat.le_refl _, hb⟩
end Go.Proofs.YtcfegclnkheebaaDoor
