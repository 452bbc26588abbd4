/-
  The walks of the statements RelAll and RelWays over contracts of the program's own functions.
-/
import Derived.Test.YtcfegclnkheebaaDoorQ
namespace Go.Proofs.YtcfegclnkheebaaDoor
open Go.RowKit

theorem row_none {w : World} {base e size n : Nat} {v : Value} {xs : List Value} (h : w.ownsRow base e size v n xs) : ∀ len cap, v = .slice none len cap → cap = 0 := by
  intro len cap e
  rcases h.2 with ⟨h', _⟩ | ⟨g, cap', cur, h', _⟩
  · rw [h'] at e; simp only [Value.slice.injEq] at e; omega
  · rw [h'] at e; simp at e
theorem refLay_sl (u v : Value) (xs ys : List Nat) (how : Int) (w : World) (hu : Sl w u xs) (hv : Sl w v ys) : Gives 14 #[u, v, .int .i64 how] w (max (sz xs) (sz ys)) (layF how xs ys) :=
  (refLay_any u v xs ys how w hu hv).mono fun _ _ ⟨_, zs, he, ho, hb, _, hl⟩ => ⟨_, zs, he, Sl.own ho hb.2.1 (by have := hb.1; have := sz_le xs; have := sz_le ys; omega) _, hb, hl⟩
theorem refThen_sl (u v : Value) (xs ys : List Nat) (w : World) (hu : Sl w u xs) (hv : Sl w v ys) : Gives 18 #[u, v] w (max (sz xs) (sz ys)) (viaB (relB xs) (relB ys) (max (sz xs) (sz ys))) :=
  (refThen_any u v xs ys w hu hv).mono fun _ _ ⟨_, zs, he, ho, hb, _, hl⟩ => ⟨_, zs, he, Sl.own ho hb.2.1 (by have := hb.1; have := sz_le xs; have := sz_le ys; omega) _, hb, hl⟩
theorem refBack_sl (u : Value) (xs : List Nat) (w : World) (hu : Sl w u xs) : Gives 22 #[u] w (sz xs) (fun a b => relB xs b a) :=
  (refBack_any u xs w hu).mono fun _ _ ⟨_, zs, he, ho, hb, _, hl⟩ => ⟨_, zs, he, Sl.own ho hb.2.1 (by have := hb.1; have := sz_le xs; omega) _, hb, hl⟩
theorem refCopy_sl (u : Value) (zs : List Nat) (w : World) (hu : Sl w u zs) (hz : ∀ len cap, u = .slice none len cap → cap = 0) :
    Calls Tryd.prog 11 #[u] w fun e w' => ∃ v', e = .returned v' ∧ Sl w' v' zs ∧ Below w.heap.size w w' :=
  (refCopy_any u zs w hu hz).mono fun _ _ ⟨v', he, ho, hl⟩ => ⟨v', he, Sl.ofRow ho hu.1 hu.2.1, hl⟩
theorem lay0 (xs ys : List Nat) (a b : Nat) : layF 0 xs ys a b = (relB xs a b || relB ys a b) := by simp [layF, relB]
theorem lay1 (xs ys : List Nat) (a b : Nat) : layF 1 xs ys a b = (relB xs a b && relB ys a b) := by simp [layF, relB]
theorem lay2 (xs ys : List Nat) (a b : Nat) : layF 2 xs ys a b = (relB xs a b && !relB ys a b) := by simp [layF, relB]

set_option maxHeartbeats 4000000 in
theorem relAll_walk (C : Rel2) (awake : Awake) (a_a a_b : Option Addr) (cap_a cap_b : Nat) (zs_a zs_b : List Nat) (i k : Int) (w : World) (tab : Tab w) (s_a : Sl w (.slice a_a zs_a.length cap_a) zs_a) (s_b : Sl w (.slice a_b zs_b.length cap_b) zs_b) (hc_a : zs_a.length ≤ cap_a) (hc_b : zs_b.length ≤ cap_b) (hz_a : a_a = none → cap_a = 0) (hz_b : a_b = none → cap_b = 0) :
    Calls Tryd.prog 3 #[.slice a_a zs_a.length cap_a, .slice a_b zs_b.length cap_b, .int .i64 i, .int .i64 k] w fun e w' => e = .returned (.bool true) ∧ Below w.heap.size w w' := by
  go_enter Tryd.func3, Tryd.ntmps3
  have l0 := Below.refl w.heap.size w
  go_wp2_with fail
  refine (awake _ tab).mono ?_
  rintro e w1 ⟨rfl, l1⟩
  have s_a := s_a.below l1
  have s_b := s_b.below l1
  go_wp2_with fail
  refine (few_any a_a cap_a zs_a _ s_a hc_a hz_a).mono ?_
  rintro e w2 ⟨v_a, rfl, o_a, l2, s_a'⟩
  have s_b := s_b.below l2
  have s_a := s_a'
  have n_a := row_none o_a
  go_wp2_with fail
  refine (few_any a_b cap_b zs_b _ s_b hc_b hz_b).mono ?_
  rintro e w3 ⟨v_b, rfl, o_b, l3, s_b'⟩
  have s_a := s_a.below l3
  have s_b := s_b'
  have n_b := row_none o_b
  obtain ⟨za, hza⟩ : ∃ z, zs_a.take 70 = z := ⟨_, rfl⟩
  obtain ⟨zb, hzb⟩ : ∃ z, zs_b.take 70 = z := ⟨_, rfl⟩
  rw [hza] at s_a
  rw [hzb] at s_b
  clear hza hzb o_a o_b s_a' s_b'
  go_wp2_with fail
  refine (refCopy_sl _ _ _ s_a n_a).mono ?_
  rintro e w4 ⟨v_x, rfl, s_x, l4⟩
  have s_a := s_a.below l4
  have s_b := s_b.below l4
  go_wp2_with fail
  refine (refCopy_sl _ _ _ s_b n_b).mono ?_
  rintro e w5 ⟨v_y, rfl, s_y, l5⟩
  have s_a := s_a.below l5
  have s_b := s_b.below l5
  have s_x := s_x.below l5
  go_wp2_with fail
  refine (C.union _ _ _ _ _ s_x s_y).mono ?_
  rintro e w6 ⟨v_p0, z_p0, rfl, s_p0, b_p0, l6⟩
  have s_a := s_a.below l6
  have s_b := s_b.below l6
  have s_x := s_x.below l6
  have s_y := s_y.below l6
  go_wp2_with fail
  refine (refLay_sl _ _ _ _ _ _ s_a s_b).mono ?_
  rintro e w7 ⟨v_q0, z_q0, rfl, s_q0, b_q0, l7⟩
  have s_a := s_a.below l7
  have s_b := s_b.below l7
  have s_x := s_x.below l7
  have s_y := s_y.below l7
  have s_p0 := s_p0.below l7
  go_wp2_with fail
  refine (refSame_any _ _ _ _ _ s_p0 s_q0).mono ?_
  rintro e w8 ⟨rfl, l8⟩
  rw [decide_eq_true (b_p0.same (b_q0.congr (fun a b _ _ => lay0 za zb a b)))]
  have s_a := s_a.below l8
  have s_b := s_b.below l8
  have s_x := s_x.below l8
  have s_y := s_y.below l8
  have s_p0 := s_p0.below l8
  have s_q0 := s_q0.below l8
  go_wp2_with fail
  refine (C.inter _ _ _ _ _ s_x s_y).mono ?_
  rintro e w9 ⟨v_p1, z_p1, rfl, s_p1, b_p1, l9⟩
  have s_a := s_a.below l9
  have s_b := s_b.below l9
  have s_x := s_x.below l9
  have s_y := s_y.below l9
  have s_p0 := s_p0.below l9
  have s_q0 := s_q0.below l9
  go_wp2_with fail
  refine (refLay_sl _ _ _ _ _ _ s_a s_b).mono ?_
  rintro e w10 ⟨v_q1, z_q1, rfl, s_q1, b_q1, l10⟩
  have s_a := s_a.below l10
  have s_b := s_b.below l10
  have s_x := s_x.below l10
  have s_y := s_y.below l10
  have s_p0 := s_p0.below l10
  have s_q0 := s_q0.below l10
  have s_p1 := s_p1.below l10
  go_wp2_with fail
  refine (refSame_any _ _ _ _ _ s_p1 s_q1).mono ?_
  rintro e w11 ⟨rfl, l11⟩
  rw [decide_eq_true (b_p1.same (b_q1.congr (fun a b _ _ => lay1 za zb a b)))]
  have s_a := s_a.below l11
  have s_b := s_b.below l11
  have s_x := s_x.below l11
  have s_y := s_y.below l11
  have s_p0 := s_p0.below l11
  have s_q0 := s_q0.below l11
  have s_p1 := s_p1.below l11
  have s_q1 := s_q1.below l11
  go_wp2_with fail
  refine (C.minus _ _ _ _ _ s_x s_y).mono ?_
  rintro e w12 ⟨v_p2, z_p2, rfl, s_p2, b_p2, l12⟩
  have s_a := s_a.below l12
  have s_b := s_b.below l12
  have s_x := s_x.below l12
  have s_y := s_y.below l12
  have s_p0 := s_p0.below l12
  have s_q0 := s_q0.below l12
  have s_p1 := s_p1.below l12
  have s_q1 := s_q1.below l12
  go_wp2_with fail
  refine (refLay_sl _ _ _ _ _ _ s_a s_b).mono ?_
  rintro e w13 ⟨v_q2, z_q2, rfl, s_q2, b_q2, l13⟩
  have s_a := s_a.below l13
  have s_b := s_b.below l13
  have s_x := s_x.below l13
  have s_y := s_y.below l13
  have s_p0 := s_p0.below l13
  have s_q0 := s_q0.below l13
  have s_p1 := s_p1.below l13
  have s_q1 := s_q1.below l13
  have s_p2 := s_p2.below l13
  go_wp2_with fail
  refine (refSame_any _ _ _ _ _ s_p2 s_q2).mono ?_
  rintro e w14 ⟨rfl, l14⟩
  rw [decide_eq_true (b_p2.same (b_q2.congr (fun a b _ _ => lay2 za zb a b)))]
  have s_a := s_a.below l14
  have s_b := s_b.below l14
  have s_x := s_x.below l14
  have s_y := s_y.below l14
  have s_p0 := s_p0.below l14
  have s_q0 := s_q0.below l14
  have s_p1 := s_p1.below l14
  have s_q1 := s_q1.below l14
  have s_p2 := s_p2.below l14
  have s_q2 := s_q2.below l14
  go_wp2_with fail
  refine (C.thn _ _ _ _ _ s_x s_y).mono ?_
  rintro e w15 ⟨v_p3, z_p3, rfl, s_p3, b_p3, l15⟩
  have s_a := s_a.below l15
  have s_b := s_b.below l15
  have s_x := s_x.below l15
  have s_y := s_y.below l15
  have s_p0 := s_p0.below l15
  have s_q0 := s_q0.below l15
  have s_p1 := s_p1.below l15
  have s_q1 := s_q1.below l15
  have s_p2 := s_p2.below l15
  have s_q2 := s_q2.below l15
  go_wp2_with fail
  refine (refThen_sl _ _ _ _ _ s_a s_b).mono ?_
  rintro e w16 ⟨v_q3, z_q3, rfl, s_q3, b_q3, l16⟩
  have s_a := s_a.below l16
  have s_b := s_b.below l16
  have s_x := s_x.below l16
  have s_y := s_y.below l16
  have s_p0 := s_p0.below l16
  have s_q0 := s_q0.below l16
  have s_p1 := s_p1.below l16
  have s_q1 := s_q1.below l16
  have s_p2 := s_p2.below l16
  have s_q2 := s_q2.below l16
  have s_p3 := s_p3.below l16
  go_wp2_with fail
  refine (refSame_any _ _ _ _ _ s_p3 s_q3).mono ?_
  rintro e w17 ⟨rfl, l17⟩
  rw [decide_eq_true (b_p3.same b_q3)]
  have s_a := s_a.below l17
  have s_b := s_b.below l17
  have s_x := s_x.below l17
  have s_y := s_y.below l17
  have s_p0 := s_p0.below l17
  have s_q0 := s_q0.below l17
  have s_p1 := s_p1.below l17
  have s_q1 := s_q1.below l17
  have s_p2 := s_p2.below l17
  have s_q2 := s_q2.below l17
  have s_p3 := s_p3.below l17
  have s_q3 := s_q3.below l17
  go_wp2_with fail
  refine (C.has _ _ _ _ _ s_x).mono ?_
  rintro e w18 ⟨rfl, l18⟩
  have s_a := s_a.below l18
  have s_b := s_b.below l18
  have s_x := s_x.below l18
  have s_y := s_y.below l18
  have s_p0 := s_p0.below l18
  have s_q0 := s_q0.below l18
  have s_p1 := s_p1.below l18
  have s_q1 := s_q1.below l18
  have s_p2 := s_p2.below l18
  have s_q2 := s_q2.below l18
  have s_p3 := s_p3.below l18
  have s_q3 := s_q3.below l18
  go_wp2_with fail
  refine (refHas_any _ _ _ _ _ s_a).mono ?_
  rintro e w' ⟨rfl, hw⟩
  subst w'
  go_wp2_with fail
  refine (C.back _ _ _ s_x).mono ?_
  rintro e w19 ⟨v_p4, z_p4, rfl, s_p4, b_p4, l19⟩
  have s_a := s_a.below l19
  have s_b := s_b.below l19
  have s_x := s_x.below l19
  have s_y := s_y.below l19
  have s_p0 := s_p0.below l19
  have s_q0 := s_q0.below l19
  have s_p1 := s_p1.below l19
  have s_q1 := s_q1.below l19
  have s_p2 := s_p2.below l19
  have s_q2 := s_q2.below l19
  have s_p3 := s_p3.below l19
  have s_q3 := s_q3.below l19
  go_wp2_with fail
  refine (refBack_sl _ _ _ s_a).mono ?_
  rintro e w20 ⟨v_q4, z_q4, rfl, s_q4, b_q4, l20⟩
  have s_a := s_a.below l20
  have s_b := s_b.below l20
  have s_x := s_x.below l20
  have s_y := s_y.below l20
  have s_p0 := s_p0.below l20
  have s_q0 := s_q0.below l20
  have s_p1 := s_p1.below l20
  have s_q1 := s_q1.below l20
  have s_p2 := s_p2.below l20
  have s_q2 := s_q2.below l20
  have s_p3 := s_p3.below l20
  have s_q3 := s_q3.below l20
  have s_p4 := s_p4.below l20
  go_wp2_with fail
  refine (refSame_any _ _ _ _ _ s_p4 s_q4).mono ?_
  rintro e w21 ⟨rfl, l21⟩
  rw [decide_eq_true (b_p4.same b_q4)]
  have s_a := s_a.below l21
  have s_b := s_b.below l21
  have s_x := s_x.below l21
  have s_y := s_y.below l21
  have s_p0 := s_p0.below l21
  have s_q0 := s_q0.below l21
  have s_p1 := s_p1.below l21
  have s_q1 := s_q1.below l21
  have s_p2 := s_p2.below l21
  have s_q2 := s_q2.below l21
  have s_p3 := s_p3.below l21
  have s_q3 := s_q3.below l21
  have s_p4 := s_p4.below l21
  have s_q4 := s_q4.below l21
  go_wp2_with fail
  refine (refSame_any _ _ _ _ _ s_x s_a).mono ?_
  rintro e w22 ⟨rfl, l22⟩
  rw [decide_eq_true rfl]
  have s_a := s_a.below l22
  have s_b := s_b.below l22
  have s_x := s_x.below l22
  have s_y := s_y.below l22
  have s_p0 := s_p0.below l22
  have s_q0 := s_q0.below l22
  have s_p1 := s_p1.below l22
  have s_q1 := s_q1.below l22
  have s_p2 := s_p2.below l22
  have s_q2 := s_q2.below l22
  have s_p3 := s_p3.below l22
  have s_q3 := s_q3.below l22
  have s_p4 := s_p4.below l22
  have s_q4 := s_q4.below l22
  go_wp2_with fail
  refine (refSame_any _ _ _ _ _ s_y s_b).mono ?_
  rintro e w23 ⟨rfl, l23⟩
  rw [decide_eq_true rfl]
  have s_a := s_a.below l23
  have s_b := s_b.below l23
  have s_x := s_x.below l23
  have s_y := s_y.below l23
  have s_p0 := s_p0.below l23
  have s_q0 := s_q0.below l23
  have s_p1 := s_p1.below l23
  have s_q1 := s_q1.below l23
  have s_p2 := s_p2.below l23
  have s_q2 := s_q2.below l23
  have s_p3 := s_p3.below l23
  have s_q3 := s_q3.below l23
  have s_p4 := s_p4.below l23
  have s_q4 := s_q4.below l23
  go_wp2_with fail
  go_ret
  exact ⟨rfl, bt (bt (bt (bt (bt (bt (bt (bt (bt (bt (bt (bt (bt (bt (bt (bt (bt (bt (bt (bt (bt (bt (bt (l0) l1) l2) l3) l4) l5) l6) l7) l8) l9) l10) l11) l12) l13) l14) l15) l16) l17) l18) l19) l20) l21) l22) l23⟩
end Go.Proofs.YtcfegclnkheebaaDoor
