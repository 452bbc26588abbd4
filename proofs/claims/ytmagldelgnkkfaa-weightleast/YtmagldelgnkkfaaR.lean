/-
  How many of a row stand ahead of a rank, or at it; the walk of the document's own answer for the middle one.
-/
import Derived.Test.YtmagldelgnkkfaaB
import Derived.Test.YtmagldelgnkkfaaG
namespace Go.Proofs.Ytmagldelgnkkfaa
open Go.RowKit

/-- How many of the first k stand ahead of the rank r, and at it. -/
def cl (zs : List Nat) (r k : Nat) : Nat := (zs.take k).countP fun z => decide (rank z < r)
def ce (zs : List Nat) (r k : Nat) : Nat := (zs.take k).countP fun z => decide (rank z = r)
theorem take_next {zs : List Nat} {k : Nat} (h : k < zs.length) : zs.take (k + 1) = zs.take k ++ [at0 zs k] := by
  rw [List.take_add_one, List.getElem?_eq_getElem h]
  unfold at0
  simp [h]
theorem cl_zero (zs : List Nat) (r : Nat) : cl zs r 0 = 0 := by unfold cl; simp
theorem ce_zero (zs : List Nat) (r : Nat) : ce zs r 0 = 0 := by unfold ce; simp
theorem cl_next {zs : List Nat} {r k : Nat} (h : k < zs.length) : cl zs r (k + 1) = cl zs r k + if rank (at0 zs k) < r then 1 else 0 := by
  unfold cl; rw [take_next h, List.countP_append]; simp [List.countP_cons]
theorem ce_next {zs : List Nat} {r k : Nat} (h : k < zs.length) : ce zs r (k + 1) = ce zs r k + if rank (at0 zs k) = r then 1 else 0 := by
  unfold ce; rw [take_next h, List.countP_append]; simp [List.countP_cons]
theorem cl_perm {zs ys : List Nat} (h : ys.Perm zs) (r : Nat) : cl ys r ys.length = cl zs r zs.length := by
  unfold cl; rw [List.take_length, List.take_length]; exact h.countP_eq _
theorem ce_perm {zs ys : List Nat} (h : ys.Perm zs) (r : Nat) : ce ys r ys.length = ce zs r zs.length := by
  unfold ce; rw [List.take_length, List.take_length]; exact h.countP_eq _
theorem cl_le (zs : List Nat) (r : Nat) {k : Nat} (h : k ≤ zs.length) : cl zs r k ≤ k := by
  induction k with
  | zero => rw [cl_zero]; exact Nat.le_refl _
  | succ k ih => rw [cl_next (by omega)]; have := ih (by omega); split <;> omega
theorem ce_le (zs : List Nat) (r : Nat) {k : Nat} (h : k ≤ zs.length) : ce zs r k ≤ k := by
  induction k with
  | zero => rw [ce_zero]; exact Nat.le_refl _
  | succ k ih => rw [ce_next (by omega)]; have := ih (by omega); split <;> omega
theorem cl_up {zs : List Nat} {r s k : Nat} (hrs : r < s) (h : k ≤ zs.length) : cl zs r k + ce zs r k ≤ cl zs s k := by
  induction k with
  | zero => rw [cl_zero, ce_zero, cl_zero]; exact Nat.le_refl _
  | succ k ih =>
    rw [cl_next (by omega), ce_next (by omega), cl_next (by omega)]
    have := ih (by omega)
    repeat' split
    all_goals omega

/-- A rank that stands in the middle of all. -/
def Mid (zs : List Nat) (r : Nat) : Prop := cl zs r zs.length ≤ zs.length / 2 ∧ zs.length / 2 < cl zs r zs.length + ce zs r zs.length
theorem Mid.same {zs : List Nat} {r s : Nat} (h : Mid zs r) (g : Mid zs s) : r = s := by
  obtain ⟨h1, h2⟩ := h
  obtain ⟨g1, g2⟩ := g
  rcases Nat.lt_trichotomy r s with c | c | c
  · have := cl_up (zs := zs) c (Nat.le_refl _); omega
  · exact c
  · have := cl_up (zs := zs) c (Nat.le_refl _); omega
/-- In order, the one at the middle place stands in the middle. -/
theorem mid_sorted {zs : List Nat} (h0 : 0 < zs.length) (s : Srt (at0 zs) 0 zs.length) : Mid zs (rank (at0 zs (zs.length / 2))) := by
  have hh : zs.length / 2 < zs.length := by omega
  generalize hH : zs.length / 2 = H at *
  have a : ∀ k, k ≤ zs.length → cl zs (rank (at0 zs H)) k ≤ H := by
    intro k hk
    induction k with
    | zero => rw [cl_zero]; omega
    | succ k ih =>
      by_cases c : k < H
      · have := cl_le zs (rank (at0 zs H)) (k := k + 1) hk; omega
      · rw [cl_next (by omega), if_neg (by have := s H k (by omega) (by omega) (by omega); omega)]
        exact ih (by omega)
  have b : ∀ k, k ≤ zs.length → min k (H + 1) ≤ cl zs (rank (at0 zs H)) k + ce zs (rank (at0 zs H)) k := by
    intro k hk
    induction k with
    | zero => omega
    | succ k ih =>
      have := ih (by omega)
      rw [cl_next (by omega), ce_next (by omega)]
      by_cases c : k ≤ H
      · have l := s k H (by omega) c hh
        by_cases d : rank (at0 zs k) < rank (at0 zs H)
        · rw [if_pos d]; omega
        · rw [if_neg d, if_pos (by omega)]; omega
      · omega
  have := a zs.length (Nat.le_refl _)
  have := b zs.length (Nat.le_refl _)
  unfold Mid
  rw [hH]
  omega
theorem mid_mix {zs ys : List Nat} (m : ys.Perm zs) {r : Nat} (h : Mid ys r) : Mid zs r := by
  unfold Mid at *
  rw [cl_perm m, ce_perm m, m.length_eq] at h
  exact h

set_option maxHeartbeats 8000000 in
theorem refMiddle_any (v : Value) (zs : List Nat) (w : World) (h : SlF w v zs) :
    Calls Try.prog 17 #[v] w fun e w' => ((∃ i, i < zs.length ∧ e = .returned (.tuple #[.float .f64 (at0 zs i), .bool true]) ∧ Mid zs (rank (at0 zs i))) ∨ (e = .returned (.tuple #[.float .f64 0, .bool false]) ∧ ∀ i, i < zs.length → ¬ Mid zs (rank (at0 zs i)))) ∧ Below w.heap.size w w' := by
  obtain ⟨f, l, a, cap, rfl, h⟩ := h
  obtain ⟨n, hn⟩ : ∃ n, zs.length = n := ⟨_, rfl⟩
  have HN : Hid (zs.length = n) := hn
  rw [hn] at h l ⊢
  have F : Hid (Fits zs) := f
  have H : Hid (n = 0 ∨ ∃ b off, a = some ⟨b, off, none⟩ ∧ b < w.heap.size ∧ ∀ i, i < n → w.cell? ⟨b, off + i, none⟩ = some (.float .f64 (zs.getD i 0))) := h.imp (fun e => by rw [← hn, e]; rfl) id
  clear h f hn
  go_enter Try.func17, Try.ntmps17
  go_wp2
  go_loopw [4] (fun s wr => ∃ (i : Nat), i ≤ n ∧ s = .int .i64 i ∧ Hid (∀ j, j < i → ¬ Mid zs (rank (at0 zs j))) ∧ Below w.heap.size w wr) (fun s _ => n - (intOf s).toNat)
  case atStart => exact ⟨0, Nat.zero_le _, rfl, fun j hj => by omega, Below.refl _ _⟩
  case round =>
    obtain ⟨i, hi, rfl, hno, hb⟩ := hrel
    by_cases c : i < n
    · have c' : (i : Int) < (n : Int) := by omega
      rcases H with H | ⟨bk, off, rfl, hbk, hc0⟩
      · omega
      have HC : Hid (∀ i, i < n → w.cell? ⟨bk, off + i, none⟩ = some (.float .f64 (zs.getD i 0))) := hc0
      clear hc0
      go_wp2_with fail
      go_loopw [5, 6, 7] (fun s t u wr => ∃ (k : Nat), k ≤ n ∧ u = .int .i64 k ∧ s = .int .i64 (cl zs (rank (at0 zs i)) k : Nat) ∧ t = .int .i64 (ce zs (rank (at0 zs i)) k : Nat) ∧ Below w.heap.size w wr) (fun _ _ u _ => n - (intOf u).toNat)
      case atStart => exact ⟨0, Nat.zero_le _, rfl, by rw [cl_zero]; rfl, by rw [ce_zero]; rfl, hb⟩
      case round =>
        clear hb
        obtain ⟨k, hk, rfl, rfl, rfl, hb⟩ := hrel
        have l1 := cl_le zs (rank (at0 zs i)) (k := k) (by have := HN.out; omega)
        have l2 := ce_le zs (rank (at0 zs i)) (k := k) (by have := HN.out; omega)
        have ci : wr.cell? ⟨bk, off + i, none⟩ = some (.float .f64 (at0 zs i)) := (hb.cell (p := ⟨bk, off + i, none⟩) hbk).trans (HC.out i c)
        by_cases d : k < n
        · have d' : (k : Int) < (n : Int) := by omega
          have N1 : Hid (cl zs (rank (at0 zs i)) (k + 1) = cl zs (rank (at0 zs i)) k + if rank (at0 zs k) < rank (at0 zs i) then 1 else 0) := cl_next (by have := HN.out; omega)
          have N2 : Hid (ce zs (rank (at0 zs i)) (k + 1) = ce zs (rank (at0 zs i)) k + if rank (at0 zs k) = rank (at0 zs i) then 1 else 0) := ce_next (by have := HN.out; omega)
          have ck : wr.cell? ⟨bk, off + k, none⟩ = some (.float .f64 (at0 zs k)) := (hb.cell (p := ⟨bk, off + k, none⟩) hbk).trans (HC.out k d)
          have x1 : at0 zs i < 18446744073709551616 := F.out i
          have x2 : at0 zs k < 18446744073709551616 := F.out k
          rcases Nat.lt_trichotomy (rank (at0 zs k)) (rank (at0 zs i)) with q | q | q
          · have q1 : decide ((rank (at0 zs k) : Int) < (rank (at0 zs i) : Int)) = true := by rw [decide_eq_true_iff]; omega
            have q2 : ((rank (at0 zs k) : Int) == (rank (at0 zs i) : Int)) = false := by rw [beq_eq_false_iff_ne]; omega
            have N1' : Hid (cl zs (rank (at0 zs i)) (k + 1) = cl zs (rank (at0 zs i)) k + 1) := by have := N1.out; rw [if_pos q] at this; exact this
            have N2' : Hid (ce zs (rank (at0 zs i)) (k + 1) = ce zs (rank (at0 zs i)) k) := by have := N2.out; rw [if_neg (by omega)] at this; exact this
            clear N1 N2
            go_wp2_with fail
            go_quiet ((go_at_call 11; exact Calls.quiet_of_same (refRank_any _ (by assumption) _)))
            go_wp2_with fail
            generalize hwq : wr.drewN _ = wq
            have ci' : wq.cell? ⟨bk, off + i, none⟩ = some (.float .f64 (at0 zs i)) := by rw [← hwq]; exact ci
            have ck' : wq.cell? ⟨bk, off + k, none⟩ = some (.float .f64 (at0 zs k)) := by rw [← hwq]; exact ck
            have hb' : Below w.heap.size w wq := by rw [← hwq]; exact bel_drewN hb _
            clear hwq ci ck hb
            go_quiet ((go_at_call 11; exact Calls.quiet_of_same (refRank_any _ (by assumption) _)))
            go_wp2_with fail
            go_roundw
            case rel => exact ⟨k + 1, by omega, by go_num, by rw [N1'.out]; go_num, by rw [N2'.out], bel_drewN hb' _⟩
            case measure => simp [intOf]; omega
          · have q1 : decide (rank (at0 zs k) < rank (at0 zs i)) = false := by rw [decide_eq_false_iff_not]; omega
            have q3 : ¬ rank (at0 zs k) < rank (at0 zs i) := by omega
            have q2 : ((rank (at0 zs k) : Int) == (rank (at0 zs i) : Int)) = true := by rw [beq_iff_eq]; omega
            have N1' : Hid (cl zs (rank (at0 zs i)) (k + 1) = cl zs (rank (at0 zs i)) k) := by have := N1.out; rw [if_neg (by omega)] at this; exact this
            have N2' : Hid (ce zs (rank (at0 zs i)) (k + 1) = ce zs (rank (at0 zs i)) k + 1) := by have := N2.out; rw [if_pos q] at this; exact this
            clear N1 N2 q
            go_wp2_with fail
            go_quiet ((go_at_call 11; exact Calls.quiet_of_same (refRank_any _ (by assumption) _)))
            go_wp2_with fail
            generalize hwq : wr.drewN _ = wq
            have ci' : wq.cell? ⟨bk, off + i, none⟩ = some (.float .f64 (at0 zs i)) := by rw [← hwq]; exact ci
            have ck' : wq.cell? ⟨bk, off + k, none⟩ = some (.float .f64 (at0 zs k)) := by rw [← hwq]; exact ck
            have hb' : Below w.heap.size w wq := by rw [← hwq]; exact bel_drewN hb _
            clear hwq ci ck hb
            go_quiet ((go_at_call 11; exact Calls.quiet_of_same (refRank_any _ (by assumption) _)))
            go_wp2_with fail
            go_roundw
            case rel => exact ⟨k + 1, by omega, by go_num, by rw [N1'.out], by rw [N2'.out]; go_num, bel_drewN hb' _⟩
            case measure => simp [intOf]; omega
          · have q1 : decide (rank (at0 zs k) < rank (at0 zs i)) = false := by rw [decide_eq_false_iff_not]; omega
            have q3 : ¬ rank (at0 zs k) < rank (at0 zs i) := by omega
            have q2 : ((rank (at0 zs k) : Int) == (rank (at0 zs i) : Int)) = false := by rw [beq_eq_false_iff_ne]; omega
            have N1' : Hid (cl zs (rank (at0 zs i)) (k + 1) = cl zs (rank (at0 zs i)) k) := by have := N1.out; rw [if_neg (by omega)] at this; exact this
            have N2' : Hid (ce zs (rank (at0 zs i)) (k + 1) = ce zs (rank (at0 zs i)) k) := by have := N2.out; rw [if_neg (by omega)] at this; exact this
            clear N1 N2
            go_wp2_with fail
            go_quiet ((go_at_call 11; exact Calls.quiet_of_same (refRank_any _ (by assumption) _)))
            go_wp2_with fail
            generalize hwq : wr.drewN _ = wq
            have ci' : wq.cell? ⟨bk, off + i, none⟩ = some (.float .f64 (at0 zs i)) := by rw [← hwq]; exact ci
            have ck' : wq.cell? ⟨bk, off + k, none⟩ = some (.float .f64 (at0 zs k)) := by rw [← hwq]; exact ck
            have hb' : Below w.heap.size w wq := by rw [← hwq]; exact bel_drewN hb _
            clear hwq ci ck hb
            go_quiet ((go_at_call 11; exact Calls.quiet_of_same (refRank_any _ (by assumption) _)))
            go_wp2_with fail
            go_roundw
            case rel => exact ⟨k + 1, by omega, by go_num, by rw [N1'.out], by rw [N2'.out], bel_drewN hb' _⟩
            case measure => simp [intOf]; omega
        · have kn : k = n := by omega
          have M : Hid (Mid zs (rank (at0 zs i)) ↔ cl zs (rank (at0 zs i)) k ≤ n / 2 ∧ n / 2 < cl zs (rank (at0 zs i)) k + ce zs (rank (at0 zs i)) k) := by
            rw [kn, ← HN.out]; exact Iff.rfl
          generalize cl zs (rank (at0 zs i)) k = A at *
          generalize ce zs (rank (at0 zs i)) k = E at *
          clear kn
          by_cases p : A ≤ n / 2
          · have p' : (A : Int) ≤ (n : Int) / 2 := by omega
            by_cases r : n / 2 < A + E
            · have r' : (n : Int) / 2 < (A : Int) + (E : Int) := by omega
              have hm : Hid (Mid zs (rank (at0 zs i))) := M.out.2 ⟨p, r⟩
              go_wp2_with fail
              go_ret2
              exact ⟨Or.inl ⟨i, c, rfl, hm.out⟩, hb⟩
            · have r' : ¬ ((n : Int) / 2 < (A : Int) + (E : Int)) := by omega
              have hm : Hid (¬ Mid zs (rank (at0 zs i))) := fun hm => r (M.out.1 hm).2
              go_wp2_with fail
              go_roundw
              case rel => exact ⟨i + 1, by omega, by go_num, fun j hj => by
                by_cases e : j = i
                · subst e; exact hm.out
                · exact hno.out j (by omega), hb⟩
              case measure => simp [intOf]; omega
          · have p' : ¬ ((A : Int) ≤ (n : Int) / 2) := by omega
            have hm : Hid (¬ Mid zs (rank (at0 zs i))) := fun hm => p (M.out.1 hm).1
            go_wp2_with fail
            go_roundw
            case rel => exact ⟨i + 1, by omega, by go_num, fun j hj => by
              by_cases e : j = i
              · subst e; exact hm.out
              · exact hno.out j (by omega), hb⟩
            case measure => simp [intOf]; omega
    · go_wp2_with fail
      go_ret2
      have e : i = n := by omega
      subst e
      exact ⟨Or.inr ⟨rfl, hno.out⟩, hb⟩
end Go.Proofs.Ytmagldelgnkkfaa
