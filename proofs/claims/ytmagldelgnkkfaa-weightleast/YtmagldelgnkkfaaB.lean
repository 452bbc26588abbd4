/-
  Rows of floats in memory; the walks of the two functions that tell the place of the least.
-/
import Derived.Test.YtmagldelgnkkfaaA
namespace Go.Proofs.Ytmagldelgnkkfaa
open Go.RowKit

theorem bel_drewN {B : Nat} {a w : World} (h : Below B a w) (n : Nat) : Below B a (w.drewN n) := h.trans ⟨rfl, rfl, rfl, Nat.le_refl _, fun _ _ => rfl⟩
/-- All are words of 64 bits. -/
def Fits (zs : List Nat) : Prop := ∀ i, zs.getD i 0 < 18446744073709551616

/-- The value v is a slice of the floats zs in the world w. -/
def SlF (w : World) (v : Value) (zs : List Nat) : Prop :=
  Fits zs ∧ zs.length ≤ 1000 ∧ ∃ a cap, v = .slice a zs.length cap ∧ (zs = [] ∨ ∃ b off, a = some ⟨b, off, none⟩ ∧ b < w.heap.size ∧ ∀ i, i < zs.length → w.cell? ⟨b, off + i, none⟩ = some (.float .f64 (zs.getD i 0)))
theorem SlF.below {w w' : World} {v : Value} {zs : List Nat} (h : SlF w v zs) (hb : Below w.heap.size w w') : SlF w' v zs := by
  obtain ⟨f, l, a, cap, e, h⟩ := h
  refine ⟨f, l, a, cap, e, ?_⟩
  rcases h with h | ⟨b, off, e1, e2, e3⟩
  · exact Or.inl h
  · exact Or.inr ⟨b, off, e1, Nat.lt_of_lt_of_le e2 hb.size, fun i hi => (hb.cell (p := ⟨b, off + i, none⟩) e2).trans (e3 i hi)⟩

/-- Of the places from i on, below n: r is the first of the least, or -1 if there is none. -/
def LeastOf (zs : List Nat) (i n : Nat) (r : Int) : Prop :=
  (n ≤ i ∧ r = -1) ∨ ∃ k : Nat, r = k ∧ i ≤ k ∧ k < n ∧ (∀ j, i ≤ j → j < n → rank (zs.getD k 0) ≤ rank (zs.getD j 0)) ∧ (∀ j, i ≤ j → j < k → rank (zs.getD k 0) < rank (zs.getD j 0))
theorem LeastOf.same {zs : List Nat} {i n : Nat} {r s : Int} (h : LeastOf zs i n r) (g : LeastOf zs i n s) : r = s := by
  rcases h with ⟨a, rfl⟩ | ⟨k, rfl, h1, h2, h3, h4⟩
  · rcases g with ⟨b, rfl⟩ | ⟨m, rfl, g1, g2, g3, g4⟩
    · rfl
    · omega
  · rcases g with ⟨b, rfl⟩ | ⟨m, rfl, g1, g2, g3, g4⟩
    · omega
    · by_cases c : k < m
      · have := g4 k h1 c; have := h3 m g1 g2; omega
      · by_cases d : m < k
        · have := h4 m g1 d; have := g3 k h1 h2; omega
        · omega

/-- One more at the end. -/
theorem LeastOf.first {zs : List Nat} : LeastOf zs 0 1 0 :=
  Or.inr ⟨0, rfl, Nat.le_refl _, by omega, fun j _ hj => by rw [show j = 0 by omega]; exact Nat.le_refl _, fun j _ hj => by omega⟩
theorem LeastOf.less {zs : List Nat} {i k : Nat} (h : LeastOf zs 0 i (k : Int)) (hl : lessB (zs.getD i 0) (zs.getD k 0) = true) : LeastOf zs 0 (i + 1) (i : Int) := by
  unfold lessB at hl; rw [decide_eq_true_iff] at hl
  rcases h with ⟨_, e⟩ | ⟨k', e, h1, h2, h3, h4⟩
  · omega
  · have : k' = k := by omega
    subst this
    refine Or.inr ⟨i, rfl, Nat.zero_le _, by omega, fun j _ hj => ?_, fun j _ hj => ?_⟩
    · by_cases c : j = i
      · subst c; exact Nat.le_refl _
      · have := h3 j (by omega) (by omega); omega
    · have := h3 j (by omega) (by omega); omega
theorem LeastOf.keep {zs : List Nat} {i k : Nat} (h : LeastOf zs 0 i (k : Int)) (hl : lessB (zs.getD i 0) (zs.getD k 0) = false) : LeastOf zs 0 (i + 1) (k : Int) := by
  unfold lessB at hl; rw [decide_eq_false_iff_not] at hl
  rcases h with ⟨_, e⟩ | ⟨k', e, h1, h2, h3, h4⟩
  · omega
  · have : k' = k := by omega
    subst this
    refine Or.inr ⟨k', rfl, Nat.zero_le _, by omega, fun j _ hj => ?_, h4⟩
    by_cases c : j = i
    · subst c; omega
    · exact h3 j (by omega) (by omega)

set_option maxHeartbeats 4000000 in
theorem least_any (v : Value) (zs : List Nat) (w : World) (h : SlF w v zs) :
    Calls Try.prog 18 #[v] w fun e w' => (∃ r, e = .returned (.int .i64 r) ∧ LeastOf zs 0 zs.length r) ∧ w' = w := by
  obtain ⟨f, l, a, cap, rfl, h⟩ := h
  obtain ⟨n, hn⟩ : ∃ n, zs.length = n := ⟨_, rfl⟩
  rw [hn] at h l ⊢
  have F : Hid (Fits zs) := f
  have H : Hid (n = 0 ∨ ∃ b off, a = some ⟨b, off, none⟩ ∧ b < w.heap.size ∧ ∀ i, i < n → w.cell? ⟨b, off + i, none⟩ = some (.float .f64 (zs.getD i 0))) := h.imp (fun e => by rw [← hn, e]; rfl) id
  clear h f hn
  go_enter Try.func18, Try.ntmps18
  go_wp2
  go_loopw [3, 8] (fun t s wr => ∃ (i : Nat) (r : Int), i ≤ n ∧ s = .int .i64 i ∧ t = .int .i64 r ∧ Hid (LeastOf zs 0 i r) ∧ wr = w) (fun _ s _ => n - (intOf s).toNat)
  case atStart => exact ⟨0, -1, Nat.zero_le _, rfl, rfl, Or.inl ⟨Nat.le_refl _, rfl⟩, rfl⟩
  case round =>
    obtain ⟨i, r, hi, rfl, rfl, hl, rfl⟩ := hrel
    by_cases hlt : i < n
    · have hlt' : (i : Int) < (n : Int) := by omega
      rcases H with H | ⟨b, off, rfl, hb, hc⟩
      · omega
      · have ci := hc i hlt
        rcases hl with ⟨h0, rfl⟩ | ⟨k, rfl, h1, h2, h3, h4⟩
        · have e0 : i = 0 := by omega
          subst e0
          have hlt0 : (0 : Int) < (n : Int) := by omega
          rw [Nat.add_zero] at ci
          clear hc
          go_wp2_with fail
          go_roundw
          case rel => exact ⟨1, 0, by omega, by go_num, by go_num, LeastOf.first, by first | rfl | trivial⟩
          case measure => simp [intOf]; omega
        · have hl : Hid (LeastOf zs 0 i (k : Int)) := Or.inr ⟨k, rfl, h1, h2, h3, h4⟩
          have ck := hc k (by omega)
          have hk' : (k : Int) < (n : Int) := by omega
          have f1 := F i
          have f2 := F k
          clear hc h1 h3 h4
          cases hq : lessB (zs.getD i 0) (zs.getD k 0)
          · have hl' : Hid (LeastOf zs 0 (i + 1) (k : Int)) := LeastOf.keep hl hq
            generalize zs.getD i 0 = x at *
            generalize zs.getD k 0 = y at *
            go_wp2_with (go_at_call 10; refine (less_any _ _ (by assumption) (by assumption) _).mono ?_; rintro e w' ⟨rfl, rfl⟩)
            go_roundw
            case rel => exact ⟨i + 1, k, by omega, by go_num, rfl, hl', by first | rfl | trivial⟩
            case measure => simp [intOf]; omega
          · have hl' : Hid (LeastOf zs 0 (i + 1) (i : Int)) := LeastOf.less hl hq
            generalize zs.getD i 0 = x at *
            generalize zs.getD k 0 = y at *
            go_wp2_with (go_at_call 10; refine (less_any _ _ (by assumption) (by assumption) _).mono ?_; rintro e w' ⟨rfl, rfl⟩)
            go_roundw
            case rel => exact ⟨i + 1, i, by omega, by go_num, rfl, hl', by first | rfl | trivial⟩
            case measure => simp [intOf]; omega
    · go_wp2_with fail
      go_ret
      have e : i = n := by omega
      subst e
      exact ⟨⟨r, rfl, hl⟩, rfl⟩

/-- One more at the beginning. -/
theorem LeastOf.last {zs : List Nat} {i : Nat} : LeastOf zs i (i + 1) (i : Int) :=
  Or.inr ⟨i, rfl, Nat.le_refl _, by omega, fun j _ hj => by rw [show j = i by omega]; exact Nat.le_refl _, fun j _ hj => by omega⟩
theorem LeastOf.down {zs : List Nat} {i n k : Nat} (h : LeastOf zs (i + 1) n (k : Int)) (hl : rank (zs.getD i 0) ≤ rank (zs.getD k 0)) : LeastOf zs i n (i : Int) := by
  rcases h with ⟨_, e⟩ | ⟨k', e, h1, h2, h3, h4⟩
  · omega
  · have : k' = k := by omega
    subst this
    refine Or.inr ⟨i, rfl, Nat.le_refl _, by omega, fun j _ hj => ?_, fun j _ hj => by omega⟩
    by_cases c : j = i
    · subst c; exact Nat.le_refl _
    · have := h3 j (by omega) (by omega); omega
theorem LeastOf.stay {zs : List Nat} {i n k : Nat} (h : LeastOf zs (i + 1) n (k : Int)) (hl : ¬ rank (zs.getD i 0) ≤ rank (zs.getD k 0)) : LeastOf zs i n (k : Int) := by
  rcases h with ⟨_, e⟩ | ⟨k', e, h1, h2, h3, h4⟩
  · omega
  · have : k' = k := by omega
    subst this
    refine Or.inr ⟨k', rfl, by omega, by omega, fun j _ hj => ?_, fun j _ hj => ?_⟩
    · by_cases c : j = i
      · subst c; omega
      · exact h3 j (by omega) (by omega)
    · by_cases c : j = i
      · subst c; omega
      · exact h4 j (by omega) (by omega)

set_option maxHeartbeats 4000000 in
theorem refLeast_any (v : Value) (zs : List Nat) (w : World) (h : SlF w v zs) :
    Calls Try.prog 19 #[v] w fun e w' => (∃ r, e = .returned (.int .i64 r) ∧ LeastOf zs 0 zs.length r) ∧ Below w.heap.size w w' := by
  obtain ⟨f, l, a, cap, rfl, h⟩ := h
  obtain ⟨n, hn⟩ : ∃ n, zs.length = n := ⟨_, rfl⟩
  rw [hn] at h l ⊢
  have F : Hid (Fits zs) := f
  have H : Hid (n = 0 ∨ ∃ b off, a = some ⟨b, off, none⟩ ∧ b < w.heap.size ∧ ∀ i, i < n → w.cell? ⟨b, off + i, none⟩ = some (.float .f64 (zs.getD i 0))) := h.imp (fun e => by rw [← hn, e]; rfl) id
  clear h f hn
  go_enter Try.func19, Try.ntmps19
  go_wp2
  go_loopw [3, 4] (fun t s wr => ∃ (i : Nat) (r : Int), i ≤ n ∧ s = .int .i64 ((i : Int) - 1) ∧ t = .int .i64 r ∧ Hid (LeastOf zs i n r) ∧ Below w.heap.size w wr) (fun _ s _ => (intOf s + 1).toNat)
  case atStart => exact ⟨n, -1, Nat.le_refl _, by go_num, rfl, Or.inl ⟨Nat.le_refl _, rfl⟩, Below.refl _ _⟩
  case round =>
    obtain ⟨i, r, hi, rfl, rfl, hl, hbel⟩ := hrel
    by_cases h0 : 0 < i
    · obtain ⟨i, rfl⟩ : ∃ k, i = k + 1 := ⟨i - 1, by omega⟩
      rw [show ((i + 1 : Nat) : Int) - 1 = (i : Int) by omega]
      have hlt' : (i : Int) < (n : Int) := by omega
      rcases H with H | ⟨b, off, rfl, hb, hc0⟩
      · omega
      · have hc : ∀ j, j < n → wr.cell? ⟨b, off + j, none⟩ = some (.float .f64 (zs.getD j 0)) := fun j hj => (hbel.cell (p := ⟨b, off + j, none⟩) hb).trans (hc0 j hj)
        have ci := hc i (by omega)
        rcases hl with ⟨h0, rfl⟩ | ⟨k, rfl, h1, h2, h3, h4⟩
        · have e0 : n = i + 1 := by omega
          subst e0
          clear hc hc0
          go_wp2_with fail
          go_quiet (fail)
          go_wp2_with fail
          go_roundw
          case rel => exact ⟨i, i, by omega, by go_num, rfl, LeastOf.last, bel_drewN hbel _⟩
          case measure => simp [intOf]
        · have hl : Hid (LeastOf zs (i + 1) n (k : Int)) := Or.inr ⟨k, rfl, h1, h2, h3, h4⟩
          have ck := hc k (by omega)
          have hk' : (k : Int) < (n : Int) := by omega
          have f1 := F i
          have f2 := F k
          clear hc hc0 h1 h3 h4
          by_cases hq : rank (zs.getD i 0) ≤ rank (zs.getD k 0)
          · have hl' : Hid (LeastOf zs i n (i : Int)) := LeastOf.down hl hq
            have hq' : decide ((rank (zs.getD i 0) : Int) ≤ (rank (zs.getD k 0) : Int)) = true := by rw [decide_eq_true_iff]; omega
            generalize zs.getD i 0 = x at *
            generalize zs.getD k 0 = y at *
            go_wp2_with fail
            go_quiet ((go_at_call 11; exact Calls.quiet_of_same (refRank_any _ (by assumption) _)))
            go_wp2_with fail
            go_roundw
            case rel => exact ⟨i, i, by omega, by go_num, rfl, hl', bel_drewN hbel _⟩
            case measure => simp [intOf]
          · have hl' : Hid (LeastOf zs i n (k : Int)) := LeastOf.stay hl hq
            have hq' : decide ((rank (zs.getD i 0) : Int) ≤ (rank (zs.getD k 0) : Int)) = false := by rw [decide_eq_false_iff_not]; omega
            generalize zs.getD i 0 = x at *
            generalize zs.getD k 0 = y at *
            go_wp2_with fail
            go_quiet ((go_at_call 11; exact Calls.quiet_of_same (refRank_any _ (by assumption) _)))
            go_wp2_with fail
            go_roundw
            case rel => exact ⟨i, k, by omega, by go_num, rfl, hl', bel_drewN hbel _⟩
            case measure => simp [intOf]
    · have e : i = 0 := by omega
      subst e
      go_wp2_with fail
      go_ret
      exact ⟨⟨r, rfl, hl⟩, hbel⟩
end Go.Proofs.Ytmagldelgnkkfaa
