/-
  The walk of the statement on the least and the middle one.
-/
import Derived.Test.YtmagldelgnkkfaaS
namespace Go.Proofs.Ytmagldelgnkkfaa
open Go.RowKit

theorem self_nan {a : Nat} (h : nanB a = true) : (FloatKind.f64.format.order a a != some Ordering.eq) = true := (f64_self a).trans h
theorem fits_take {ns : List Nat} (f : Fits ns) (k : Nat) : Fits (ns.take k) := by
  intro i
  by_cases c : i < k
  · rw [List.getD_eq_getElem?_getD, List.getElem?_take_of_lt c, ← List.getD_eq_getElem?_getD]; exact f i
  · rw [List.getD_eq_getElem?_getD, List.getElem?_take_eq_none (by omega)]; simp

theorem refMiddle_none (v : Value) (zs : List Nat) (w : World) (h : SlF w v zs) (h0 : zs.length = 0) :
    Calls Try.prog 17 #[v] w fun e w' => e = .returned (.tuple #[.float .f64 0, .bool false]) ∧ Below w.heap.size w w' :=
  (refMiddle_any v zs w h).mono fun e w' ⟨he, hb⟩ => by
    rcases he with ⟨i, hi, _⟩ | ⟨he, _⟩
    · omega
    · exact ⟨he, hb⟩
theorem refMiddle_some (v : Value) (zs : List Nat) (w : World) (h : SlF w v zs) (r : Nat) (hr : Mid zs r) (hy : ∃ y, y < zs.length ∧ r = rank (at0 zs y)) :
    Calls Try.prog 17 #[v] w fun e w' => (∃ z, e = .returned (.tuple #[.float .f64 z, .bool true]) ∧ z < 18446744073709551616 ∧ rank z = r) ∧ Below w.heap.size w w' :=
  (refMiddle_any v zs w h).mono fun e w' ⟨he, hb⟩ => by
    rcases he with ⟨i, hi, he, hm⟩ | ⟨_, hno⟩
    · exact ⟨⟨_, he, h.1 i, hm.same hr⟩, hb⟩
    · obtain ⟨y, h1, h2⟩ := hy
      subst h2
      exact absurd hr (hno y h1)

set_option maxHeartbeats 8000000 in
theorem weightLeast_any (v : Value) (ns : List Nat) (w : World) (h : SlU w v ns) :
    Calls Try.prog 6 #[v] w fun e w' => e = .returned (.bool true) ∧ Below w.heap.size w w' := by
  have HF : Hid (Fits (ns.take (min ns.length 100))) := fits_take h.1 _
  have HL : Hid ((ns.take (min ns.length 100)).length = min ns.length 100) := by show (ns.take _).length = _; simp
  go_enter Try.func6, Try.ntmps6
  go_wp2_with (first | (go_at_call 8; refine (awake_any _).mono ?_; rintro e w1 ⟨rfl, hb1⟩; have h1 := h.below hb1) | (go_at_call 15; refine (floats_any _ _ _ h1).mono ?_; rintro e w2 ⟨v2, rfl, hr2, hb2⟩))
  obtain ⟨zs, hzs⟩ : ∃ zs, ns.take (min ns.length 100) = zs := ⟨_, rfl⟩
  rw [hzs] at HF HL hr2
  rw [← HL.out] at hr2
  have l100 : zs.length ≤ 100 := by have := HL.out; omega
  have s2 := row_sl hr2 HF.out (by omega)
  have B2 : Hid (Below w.heap.size w w2) := hb1.trans (hb2.mono hb1.size)
  clear hzs hr2 HL h h1 hb1 hb2
  rcases Nat.eq_zero_or_pos zs.length with h0 | h0
  · have q := self_nan theNaN_nan
    have V : ∃ a cap, v2 = .slice a 0 cap := by
      obtain ⟨_, _, a, cap, e, _⟩ := s2
      rw [h0] at e; exact ⟨a, cap, e⟩
    obtain ⟨a, cap, rfl⟩ := V
    go_wp2_with (first | (go_at_call 16; refine (middle_none _ _ _ s2 h0).mono ?_; rintro e w3 ⟨rfl, rfl⟩) | (go_at_call 17; refine (refMiddle_none _ _ _ s2 h0).mono ?_; rintro e w4 ⟨rfl, hb4⟩; have s4 := s2.below hb4) | (go_at_call 18; refine (least_any _ _ _ s4).mono ?_; rintro e w5 ⟨⟨r, rfl, lr⟩, rfl⟩) | (go_at_call 19; refine (refLeast_any _ _ _ s4).mono ?_; rintro e w6 ⟨⟨r', rfl, lr'⟩, hb6⟩; obtain rfl := lr.same lr'))
    go_ret
    exact ⟨rfl, B2.out.trans ((hb4.trans (hb6.mono hb4.size)).mono B2.out.size)⟩
  · go_wp2_with (go_at_call 16; refine (middle_some _ _ _ s2 h0 l100).mono ?_; rintro e w3 ⟨⟨ys, rfl, hm3, hs3⟩, hb3⟩; have s3 := s2.below hb3)
    have M : Hid (Mid zs (rank (at0 ys (zs.length / 2)))) := by
      refine mid_mix hm3.perm ?_
      rw [← hm3.len] at hs3 ⊢
      exact mid_sorted (by rw [hm3.len]; exact h0) hs3
    have Y : Hid (∃ y, y < zs.length ∧ rank (at0 ys (zs.length / 2)) = rank (at0 zs y)) := by
      obtain ⟨y, _, y2, e⟩ := hm3.ins (zs.length / 2) (Nat.zero_le _) (by omega)
      exact ⟨y, y2, by rw [e]⟩
    have fm : at0 ys (zs.length / 2) < 18446744073709551616 := hm3.fits HF.out _
    have B3 : Hid (Below w.heap.size w w3) := B2.out.trans (hb3.mono B2.out.size)
    clear hm3 hs3 hb3 s2
    generalize at0 ys (zs.length / 2) = m at *
    go_wp2_with (first | (go_at_call 17; refine (refMiddle_some _ _ _ s3 _ M.out Y.out).mono ?_; rintro e w4 ⟨⟨z, rfl, fz, ez⟩, hb4⟩; have s4 := s3.below hb4) | (go_at_call 18; refine (least_any _ _ _ s4).mono ?_; rintro e w5 ⟨⟨r, rfl, lr⟩, rfl⟩) | (go_at_call 19; refine (refLeast_any _ _ _ s4).mono ?_; rintro e w6 ⟨⟨r', rfl, lr'⟩, hb6⟩; obtain rfl := lr.same lr') | (go_at_call 20; refine (alike_any _ _ fm fz _).mono ?_; rintro e w7 ⟨rfl, rfl⟩))
    go_ret
    exact ⟨rfl, B3.out.trans ((hb4.trans (hb6.mono hb4.size)).mono B3.out.size)⟩
end Go.Proofs.Ytmagldelgnkkfaa
