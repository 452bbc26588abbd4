/-
  The walk of the statement RelWays over contracts of the program's own functions.
-/
import Derived.Test.YtcfegclnkheebaaDoorQ
namespace Go.Proofs.YtcfegclnkheebaaDoor
open Go.RowKit

theorem refPlus_sl (u : Value) (xs : List Nat) (w : World) (hu : Sl w u xs) :
    Calls Tryd.prog 26 #[u] w fun e w' => ∃ (v : Value) (ys : List Nat) (G : Nat → Nat → Bool), e = .returned v ∧ Sl w' v ys ∧ Bits (sz xs) G ys ∧ (∀ a b, a < sz xs → b < sz xs → (G a b = true ↔ Way (relB xs) (sz xs) a b)) ∧ Below w.heap.size w w' :=
  (refPlus_any u xs w hu).mono fun _ _ ⟨_, zs, G, he, ho, hb, hG, _, hl⟩ => ⟨_, zs, G, he, Sl.own ho hb.2.1 (by have := hb.1; have := sz_le xs; omega) _, hb, hG, hl⟩
theorem refStar_sl (u : Value) (xs : List Nat) (w : World) (hu : Sl w u xs) :
    Calls Tryd.prog 28 #[u] w fun e w' => ∃ (v : Value) (ys : List Nat) (G : Nat → Nat → Bool), e = .returned v ∧ Sl w' v ys ∧ Bits (sz xs) (fun a b => G a b || decide (a = b)) ys ∧ (∀ a b, a < sz xs → b < sz xs → (G a b = true ↔ Way (relB xs) (sz xs) a b)) ∧ Below w.heap.size w w' :=
  (refStar_any u xs w hu).mono fun _ _ ⟨_, zs, G, he, ho, hb, hG, _, hl⟩ => ⟨_, zs, G, he, Sl.own ho hb.2.1 (by have := hb.1; have := sz_le xs; omega) _, hb, hG, hl⟩
theorem refOrder_sl (u : Value) (xs : List Nat) (w : World) (hu : Sl w u xs) :
    Calls Tryd.prog 24 #[u] w fun e w' => ∃ (v : Value) (l : List Nat) (ok : Bool), e = .returned (.tuple #[v, .bool ok]) ∧ SlI w' v l ∧ (ordL (relB xs) (sz xs) = if ok = true then some l else none) ∧ (ok = false → l = []) ∧ Below w.heap.size w w' :=
  (refOrder_any u xs w hu).mono fun _ _ ⟨hl, h⟩ => by
    rcases h with ⟨h1, rfl⟩ | ⟨v, l, h1, rfl, hq, hlen⟩
    · exact ⟨_, [], false, rfl, SlI.nil _, h1, fun _ => rfl, hl⟩
    · exact ⟨v, l, true, rfl, hq.sl (by have := sz_le xs; omega), h1, fun h => by simp at h, hl⟩
theorem ord_same {R : Nat → Nat → Bool} {n : Nat} {l m : List Nat} {p q : Bool} (h1 : ordL R n = if p = true then some l else none) (h2 : ordL R n = if q = true then some m else none) (h3 : p = false → l = []) (h4 : q = false → m = []) : p = q ∧ l = m := by
  rw [h1] at h2
  cases p <;> cases q <;> simp at h2
  · exact ⟨rfl, by rw [h3 rfl, h4 rfl]⟩
  · exact ⟨rfl, h2⟩

set_option maxHeartbeats 4000000 in
theorem relWays_walk (C : Rel2) (awake : Awake) (a_a : Option Addr) (cap_a : Nat) (zs_a : List Nat) (w : World) (tab : Tab w) (s_a : Sl w (.slice a_a zs_a.length cap_a) zs_a) (hc_a : zs_a.length ≤ cap_a) (hz_a : a_a = none → cap_a = 0) :
    Calls Tryd.prog 4 #[.slice a_a zs_a.length cap_a] w fun e w' => e = .returned (.bool true) ∧ Below w.heap.size w w' := by
  go_enter Tryd.func4, Tryd.ntmps4
  have l0 := Below.refl w.heap.size w
  go_wp2_with fail
  refine (awake _ tab).mono ?_
  rintro e w1 ⟨rfl, l1⟩
  have s_a := s_a.below l1
  go_wp2_with fail
  refine (few_any a_a cap_a zs_a _ s_a hc_a hz_a).mono ?_
  rintro e w2 ⟨v_a, rfl, o_a, l2, s_a'⟩
  have s_a := s_a'
  obtain ⟨za, hza⟩ : ∃ z, zs_a.take 70 = z := ⟨_, rfl⟩
  rw [hza] at s_a
  clear hza o_a s_a'
  go_wp2_with fail
  obtain ⟨lo, oko, ho1, ho2, co⟩ := C.order _ _ _ s_a
  refine co.mono ?_
  rintro e w3 ⟨v_o, rfl, i_o, l3⟩
  have s_a := s_a.below l3
  go_wp2_with fail
  refine (refOrder_sl _ _ _ s_a).mono ?_
  rintro e w4 ⟨v_m, lm, okm, rfl, i_m, hm1, hm2, l4⟩
  have s_a := s_a.below l4
  have i_o := i_o.below l4
  obtain ⟨eok, elo⟩ := ord_same ho1 hm1 ho2 hm2
  subst eok elo
  clear ho1 ho2 hm1 hm2
  go_wp2_with fail
  obtain ⟨G1, hG1, c1⟩ := C.plus _ _ _ s_a
  refine c1.mono ?_
  rintro e w5 ⟨v_p, z_p, rfl, s_p, b_p, l5⟩
  have s_a := s_a.below l5
  have i_o := i_o.below l5
  have i_m := i_m.below l5
  go_wp2_with fail
  refine (refPlus_sl _ _ _ s_a).mono ?_
  rintro e w6 ⟨v_q, z_q, G2, rfl, s_q, b_q, hG2, l6⟩
  have s_a := s_a.below l6
  have s_p := s_p.below l6
  have i_o := i_o.below l6
  have i_m := i_m.below l6
  go_wp2_with fail
  refine (refSame_any _ _ _ _ _ s_p s_q).mono ?_
  rintro e w7 ⟨rfl, l7⟩
  rw [decide_eq_true (b_p.same (b_q.congr (fun a b ha hb => by rw [Bool.eq_iff_iff, hG2 a b ha hb, hG1 a b ha hb])))]
  have s_a := s_a.below l7
  have s_p := s_p.below l7
  have s_q := s_q.below l7
  have i_o := i_o.below l7
  have i_m := i_m.below l7
  go_wp2_with fail
  obtain ⟨G3, hG3, c3⟩ := C.star _ _ _ s_a
  refine c3.mono ?_
  rintro e w8 ⟨v_s, z_s, rfl, s_s, b_s, l8⟩
  have s_a := s_a.below l8
  have s_p := s_p.below l8
  have s_q := s_q.below l8
  have i_o := i_o.below l8
  have i_m := i_m.below l8
  go_wp2_with fail
  refine (refStar_sl _ _ _ s_a).mono ?_
  rintro e w9 ⟨v_t, z_t, G4, rfl, s_t, b_t, hG4, l9⟩
  have s_a := s_a.below l9
  have s_p := s_p.below l9
  have s_q := s_q.below l9
  have s_s := s_s.below l9
  have i_o := i_o.below l9
  have i_m := i_m.below l9
  go_wp2_with fail
  refine (refSame_any _ _ _ _ _ s_s s_t).mono ?_
  rintro e w10 ⟨rfl, l10⟩
  rw [decide_eq_true (b_s.same (b_t.congr (fun a b ha hb => by rw [show G4 a b = G3 a b by rw [Bool.eq_iff_iff, hG4 a b ha hb, hG3 a b ha hb]])))]
  have s_a := s_a.below l10
  have s_p := s_p.below l10
  have s_q := s_q.below l10
  have s_s := s_s.below l10
  have s_t := s_t.below l10
  have i_o := i_o.below l10
  have i_m := i_m.below l10
  go_wp2_with fail
  obtain ⟨ra, hra, cra⟩ := C.ring _ _ _ s_a
  refine cra.mono ?_
  rintro e w11 ⟨rfl, l11⟩
  have s_a := s_a.below l11
  have s_p := s_p.below l11
  have s_q := s_q.below l11
  have s_s := s_s.below l11
  have s_t := s_t.below l11
  have i_o := i_o.below l11
  have i_m := i_m.below l11
  go_wp2_with fail
  refine (refRing_any _ _ _ s_a).mono ?_
  rintro e w12 ⟨rb, rfl, hrb, l12⟩
  have s_a := s_a.below l12
  have s_p := s_p.below l12
  have s_q := s_q.below l12
  have s_s := s_s.below l12
  have s_t := s_t.below l12
  have i_o := i_o.below l12
  have i_m := i_m.below l12
  have er : ra = rb := by rw [Bool.eq_iff_iff, hra, hrb]; exact Iff.rfl
  subst er
  clear hra hrb
  go_wp2_with fail
  refine (refSameInts_any _ _ _ _ _ i_o i_m).mono ?_
  rintro e w13 ⟨rfl, l13⟩
  rw [decide_eq_true rfl]
  go_wp2_with fail
  go_ret
  exact ⟨rfl, bt (bt (bt (bt (bt (bt (bt (bt (bt (bt (bt (bt (bt (l0) l1) l2) l3) l4) l5) l6) l7) l8) l9) l10) l11) l12) l13⟩
end Go.Proofs.YtcfegclnkheebaaDoor
