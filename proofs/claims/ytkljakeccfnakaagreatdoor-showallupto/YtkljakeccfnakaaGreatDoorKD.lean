/-
  The walk of an app.
-/
import Derived.Test.YtkljakeccfnakaaGreatDoorKB
namespace Go.Proofs.YtkljakeccfnakaaGreatDoor
open Go.RowKit

set_option maxHeartbeats 8000000 in
theorem app_goes {Z R en f : Nat} (KU : ∀ g, g ≤ f → Reads Z R en g 169 .unit) : Goes Z R en f 184 fun p x k => .call (.appL p x) k := by
  intro p0 v0 x0 q k ts O w hw hq hqR hx0 hO hg
  have lz : Z ≤ w.heap.size := hw.size
  have lr : R < Z := hw.rz
  have HO := Hid.intro hO
  have HW := Hid.intro hw
  have HQ := Hid.intro hq
  have HQR := Hid.intro hqR
  obtain ⟨nn0, tx0, ox0, a0, ln0, cp0, rfl, htx0⟩ := hx0.form2
  have HX0 := Hid.intro hx0
  have HKU := Hid.intro KU
  rw [run_call] at hg
  have HG0 := Hid.intro hg
  clear KU hw hO hg hx0 htx0 hq hqR
  have F0 := fld0; have F1 := fld1; have F2 := fld2; have F3 := fld3
  go_enter Tryz.func184, Tryz.ntmps184
  go_wp2_with fail
  go_loopw [9] (fun _ wr => ∃ (xl : Ex) (nn : Int) (tx ox : ByteArray) (a : Option Addr) (ln cp : Nat) (us : List Tok) (g : Nat), g ≤ f ∧ Hid (Box wr (w.heap.size + 1) (.int .i64 0) (.string ⟨#[]⟩) (.string ⟨#[]⟩) (.int .i64 0) (.int .i64 0) (.slice none 0 0)) ∧ Hid (Box wr (w.heap.size + 1 + 1) (.int .i64 (xl.kind : Int)) (.string tx) (.string ox) (.int .i64 nn) (.int .i64 (xl.pl : Int)) (.slice a ln cp)) ∧ Hid (St Z R en wr us) ∧ Hid (ExQ (Qn q w.heap.size (w.heap.size + 1) (w.heap.size + 1 + 1)) wr (.agg #[.int .i64 (xl.kind : Int), .string tx, .string ox, .int .i64 nn, .int .i64 (xl.pl : Int), .slice a ln cp]) xl) ∧ Hid (But R w wr) ∧ Hid (thenO en f k (P en g (.appL p0 xl) us) = O)) (fun _ wr => tokLen R wr)
  case atStart =>
    refine ⟨x0, nn0, tx0, ox0, a0, ln0, cp0, ts, f, Nat.le_refl _, Hid.intro ((Box.new (by simp)).alloc _), Hid.intro (Box.new (by simp)), Hid.intro (HW.out.below (by repeat (first | with_reducible exact Below.refl _ _ | with_reducible refine Below.alloc ?_ (by first | omega | (simp; done) | (simp; omega)) _ | with_reducible refine Below.drew ?_ | with_reducible refine Below.setCell ?_ (by first | (dsimp only; omega) | (simp; omega)) _ ))), Hid.intro ((HX0.out.imp (fun b h1 h2 => Qn.of h2 (by omega))).keep (by repeat (first | with_reducible exact KeptQ.refl _ _ | with_reducible refine KeptQ.alloc ?_ _ | with_reducible refine KeptQ.drew ?_ | with_reducible refine KeptQ.setCell ?_ (by intro h; have h2 := Qn.no h; first | (dsimp only at h2 ⊢; omega) | (simp at h2 ⊢; omega) | omega) _ | with_reducible refine KeptQ.but ?_ (by assumption) (Qn.nor HQR.out)))), Hid.intro (by repeat (first | with_reducible exact But.refl _ _ | with_reducible refine But.alloc ?_ _ | with_reducible refine But.drew ?_ | with_reducible refine But.setCell ?_ (by first | (left; dsimp only; omega) | (left; simp; omega)) _ | with_reducible refine But.trans ?_ (by assumption) | with_reducible refine But.below ?_ (by assumption))), HG0⟩
  case round =>
    obtain ⟨xl, nn, tx, ox, a, ln, cp, us, g, hgf, HR, HL, HS, HXl, HB, HI⟩ := hrel
    have hB := HB.out
    have lB := hB.size
    have lR := HR.out.lt
    have lL := HL.out.lt
    cases g with
    | zero => exact absurd (HI.out.symm.trans rfl) HO.out
    | succ g =>
      have HI2 : Hid (thenO en f k (runC en (P en g) (body (.appL p0 xl)) us) = O) := HI
      clear HI
      go_wp2_with fail
      refine (peek_any Z R en us _ (HS.out.below (by repeat (first | with_reducible exact Below.refl _ _ | with_reducible refine Below.alloc ?_ (by first | omega | (simp; done) | (simp; omega)) _ | with_reducible refine Below.drew ?_ | with_reducible refine Below.setCell ?_ (by first | (dsimp only; omega) | (simp; omega)) _ )))).mono ?_
      rintro e w1 ⟨rfl, hp1⟩
      unfold tkV
      have hb1 := But.of (R := R) hp1
      have l1 := hb1.size
      (try simp at l1)
      have HR1 : Hid (Box w1 (w.heap.size + 1) (.int .i64 0) (.string ⟨#[]⟩) (.string ⟨#[]⟩) (.int .i64 0) (.int .i64 0) (.slice none 0 0)) := Hid.intro (Box.but hb1 (by first | omega | (simp; done) | (simp; omega)) (by repeat (first | with_reducible exact HR.out | with_reducible refine Box.drew ?_ | with_reducible refine Box.alloc _ ?_ | with_reducible refine Box.other (by first | (dsimp only; omega) | (simp; omega)) ?_)))
      have HL1 : Hid (Box w1 (w.heap.size + 1 + 1) (.int .i64 (xl.kind : Int)) (.string tx) (.string ox) (.int .i64 nn) (.int .i64 (xl.pl : Int)) (.slice a ln cp)) := Hid.intro (Box.but hb1 (by first | omega | (simp; done) | (simp; omega)) (by repeat (first | with_reducible exact HL.out | with_reducible refine Box.drew ?_ | with_reducible refine Box.alloc _ ?_ | with_reducible refine Box.other (by first | (dsimp only; omega) | (simp; omega)) ?_)))
      clear HR HL
      have HS1 : Hid (St Z R en w1 us) := Hid.intro (St.to (HS.out.below (by repeat (first | with_reducible exact Below.refl _ _ | with_reducible refine Below.alloc ?_ (by first | omega | (simp; done) | (simp; omega)) _ | with_reducible refine Below.drew ?_ | with_reducible refine Below.setCell ?_ (by first | (dsimp only; omega) | (simp; omega)) _ ))) hp1)
      clear hp1
      go_wp2_with fail
      refine (beginsUnit_any (nextT en us) _).mono ?_
      rintro e w2 ⟨rfl, hp2⟩
      have hb2 := But.of (R := R) hp2
      have l2 := hb2.size
      (try simp at l2)
      have HR2 : Hid (Box w2 (w.heap.size + 1) (.int .i64 0) (.string ⟨#[]⟩) (.string ⟨#[]⟩) (.int .i64 0) (.int .i64 0) (.slice none 0 0)) := Hid.intro (Box.but hb2 (by first | omega | (simp; done) | (simp; omega)) (by repeat (first | with_reducible exact HR1.out | with_reducible refine Box.drew ?_ | with_reducible refine Box.alloc _ ?_ | with_reducible refine Box.other (by first | (dsimp only; omega) | (simp; omega)) ?_)))
      have HL2 : Hid (Box w2 (w.heap.size + 1 + 1) (.int .i64 (xl.kind : Int)) (.string tx) (.string ox) (.int .i64 nn) (.int .i64 (xl.pl : Int)) (.slice a ln cp)) := Hid.intro (Box.but hb2 (by first | omega | (simp; done) | (simp; omega)) (by repeat (first | with_reducible exact HL1.out | with_reducible refine Box.drew ?_ | with_reducible refine Box.alloc _ ?_ | with_reducible refine Box.other (by first | (dsimp only; omega) | (simp; omega)) ?_)))
      clear HR1 HL1
      have HS2 : Hid (St Z R en w2 us) := Hid.intro (St.to (HS1.out.below (by repeat (first | with_reducible exact Below.refl _ _ | with_reducible refine Below.alloc ?_ (by first | omega | (simp; done) | (simp; omega)) _ | with_reducible refine Below.drew ?_ | with_reducible refine Below.setCell ?_ (by first | (dsimp only; omega) | (simp; omega)) _ ))) hp2)
      clear hp2
      cases hbg : hd begins us
      · have hbn : begins (nextT en us) = false := by cases us with | nil => rfl | cons => exact hbg
        rw [hbn]
        have HI3 : Hid (runC en (P en f) (k xl) us = O) := Hid.intro (by rw [← HI2.out]; simp [body, runC, hbg, thenO])
        clear hbg hbn HI2
        obtain ⟨y0, y1, y2, y3, y4, y5⟩ := HL2.out.cells
        obtain ⟨yf0, yf1, yf2, yf3, yf4, yf5⟩ := HL2.out.frees
        obtain ⟨z0, z1, z2, z3, z4, z5⟩ := HR2.out.cells
        obtain ⟨zf0, zf1, zf2, zf3, zf4, zf5⟩ := HR2.out.frees
        go_wp2
        refine bodyPost_ret (v := .agg #[.int .i64 (xl.kind : Int), .string tx, .string ox, .int .i64 nn, .int .i64 (xl.pl : Int), .slice a ln cp]) (by simp [results, Tryz.results184, go_sem, *]) rfl ⟨(by repeat (first | with_reducible exact But.refl _ _ | with_reducible refine But.alloc ?_ _ | with_reducible refine But.drew ?_ | with_reducible refine But.setCell ?_ (by first | (left; dsimp only; omega) | (left; simp; omega)) _ | with_reducible refine But.trans ?_ (by assumption) | with_reducible refine But.below ?_ (by assumption))), Or.inl ⟨_, xl, _, rfl, ((HXl.out.keep (by repeat (first | with_reducible exact KeptQ.refl _ _ | with_reducible refine KeptQ.alloc ?_ _ | with_reducible refine KeptQ.drew ?_ | with_reducible refine KeptQ.setCell ?_ (by intro h; have h2 := Qn.no h; first | (dsimp only at h2 ⊢; omega) | (simp at h2 ⊢; omega) | omega) _ | with_reducible refine KeptQ.but ?_ (by assumption) (Qn.nor HQR.out)))).imp (fun _ _ h => Qn.q h)), (HS2.out.below (by repeat (first | with_reducible exact Below.refl _ _ | with_reducible refine Below.alloc ?_ (by first | omega | (simp; done) | (simp; omega)) _ | with_reducible refine Below.drew ?_ | with_reducible refine Below.setCell ?_ (by first | (dsimp only; omega) | (simp; omega)) _ ))), HI3.out⟩⟩
      · have hbn : begins (nextT en us) = true := by cases us with | nil => cases hbg | cons => exact hbg
        rw [hbn]
        have HI3 : Hid (thenO en f k (thenO en g (fun u => .call (.appL p0 (joinE 8 [] p0 xl u)) .ret) (P en g .unit us)) = O) := Hid.intro (by rw [← HI2.out, ← run_call]; simp [body, runC, hbg])
        clear hbg hbn HI2
        have hne : P en g .unit us ≠ .out := then_out (f := g) (then_out (f := f) (by rw [HI3.out]; exact HO.out))
        have HNE := Hid.intro hne
        clear hne
        go_wp2_with fail
        refine wp_region_held_tail (S := fun w' => Box w' (w.heap.size + 1 + 1) (.int .i64 (xl.kind : Int)) (.string tx) (.string ox) (.int .i64 nn) (.int .i64 (xl.pl : Int)) (.slice a ln cp)) 4 (by kernel_rfl) (by kernel_rfl) (by repeat (first | with_reducible exact HL2.out | with_reducible refine Box.drew ?_ | with_reducible refine Box.alloc _ ?_ | with_reducible refine Box.other (by first | (dsimp only; omega) | (simp; omega)) ?_)) (fun hHeld => ?_)
        simp only [List.take_succ_cons, List.take_zero, List.drop_succ_cons, List.drop_zero]
        refine wpAnyH_take (i := 0) (v := .int .i64 (p0 : Nat)) rfl (by kernel_rfl) (by kernel_rfl) (by kernel_rfl) (fun _ _ _ h => h) (Or.inl ⟨by rfl, by intro w _; go_simp⟩) hHeld ?_
        refine wpAnyH_take (i := 1) (v := .agg #[.int .i64 (xl.kind : Int), .string tx, .string ox, .int .i64 nn, .int .i64 (xl.pl : Int), .slice a ln cp]) rfl (by kernel_rfl) (by kernel_rfl) (by kernel_rfl) (fun _ _ _ h => h) (Or.inl ⟨by rfl, by intro w hS; obtain ⟨y0, y1, y2, y3, y4, y5⟩ := Box.cells hS; go_simp⟩) hHeld ?_
        refine wpAnyH_take (i := 2) (v := .pointer (some ⟨R, 0, none⟩)) rfl (by kernel_rfl) (by kernel_rfl) (by kernel_rfl) (fun _ _ _ h => h) (Or.inl ⟨by rfl, by intro w _; go_simp⟩) hHeld ?_
        refine wpAnyH_ready (rs := [3]) (by kernel_rfl) (by simp) ?_
        refine AllReadyH.cons rfl (fun K hK => ?_) AllReadyH.nil
        go_simp
        refine ((HKU.out g (by omega)).more (HS2.out.below (by repeat (first | with_reducible exact Below.refl _ _ | with_reducible refine Below.alloc ?_ (by first | omega | (simp; done) | (simp; omega)) _ | with_reducible refine Below.drew ?_ | with_reducible refine Below.setCell ?_ (by first | (dsimp only; omega) | (simp; omega)) _ ))) HNE.out).mono ?_
        rintro e w3 ⟨hb3, ⟨v3, x3, r3, rfl, hx3, hs, hP⟩ | ⟨c, p, rfl, hG⟩⟩
        rotate_left
        · exact ⟨rfl, (by repeat (first | with_reducible exact But.refl _ _ | with_reducible refine But.alloc ?_ _ | with_reducible refine But.drew ?_ | with_reducible refine But.setCell ?_ (by first | (left; dsimp only; omega) | (left; simp; omega)) _ | with_reducible refine But.trans ?_ (by assumption) | with_reducible refine But.below ?_ (by assumption))), Or.inr ⟨c, p, rfl, by rw [← HI3.out]; exact gone_then (gone_then hG)⟩⟩
        obtain ⟨nn3, tx3, ox3, a3, ln3, cp3, rfl, htx3⟩ := hx3.form2
        have HX3 := Hid.intro hx3
        have HS3 := Hid.intro hs
        have HP3 := Hid.intro hP
        clear hx3 hs htx3 hP
        have l3 := hb3.size
        (try simp at l3)
        have HR3 : Hid (Box w3 (w.heap.size + 1) (.int .i64 0) (.string ⟨#[]⟩) (.string ⟨#[]⟩) (.int .i64 0) (.int .i64 0) (.slice none 0 0)) := Hid.intro (Box.but hb3 (by first | omega | (simp; done) | (simp; omega)) (by repeat (first | with_reducible exact HR2.out | with_reducible refine Box.drew ?_ | with_reducible refine Box.alloc _ ?_ | with_reducible refine Box.other (by first | (dsimp only; omega) | (simp; omega)) ?_)))
        have HL3 : Hid (Box w3 (w.heap.size + 1 + 1) (.int .i64 (xl.kind : Int)) (.string tx) (.string ox) (.int .i64 nn) (.int .i64 (xl.pl : Int)) (.slice a ln cp)) := Hid.intro (Box.but hb3 (by first | omega | (simp; done) | (simp; omega)) (by repeat (first | with_reducible exact HL2.out | with_reducible refine Box.drew ?_ | with_reducible refine Box.alloc _ ?_ | with_reducible refine Box.other (by first | (dsimp only; omega) | (simp; omega)) ?_)))
        clear HR2 HL2
        refine hK.out _ _ (by repeat (first | with_reducible exact HL3.out | with_reducible refine Box.drew ?_ | with_reducible refine Box.alloc _ ?_ | with_reducible refine Box.other (by first | (dsimp only; omega) | (simp; omega)) ?_)) (fun hHeld => ?_)
        clear hK K
        have HLT := Hid.intro (P_eat en g .unit us x3 r3 rfl HP3.out)
        refine wpAnyH_done (by kernel_rfl) ?_ _
        show wpList _ _ _ _ _ _
        clear hHeld
        go_wp2_with fail
        refine (join_any 8 ⟨#[]⟩ p0 _ _ xl x3 (Qn q w.heap.size (w.heap.size + 1) (w.heap.size + 1 + 1)) _ (fun b hb => Qn.of (HQ.out b (by first | omega | (simp at hb; omega))) (by first | omega | (simp at hb; omega))) (HXl.out.keep (by repeat (first | with_reducible exact KeptQ.refl _ _ | with_reducible refine KeptQ.alloc ?_ _ | with_reducible refine KeptQ.drew ?_ | with_reducible refine KeptQ.setCell ?_ (by intro h; have h2 := Qn.no h; first | (dsimp only at h2 ⊢; omega) | (simp at h2 ⊢; omega) | omega) _ | with_reducible refine KeptQ.but ?_ (by assumption) (Qn.nor HQR.out)))) ((HX3.out.keep (by repeat (first | with_reducible exact Kept.refl _ _ | with_reducible refine Kept.alloc ?_ _ | with_reducible refine Kept.drew ?_ | with_reducible refine Kept.setCell ?_ (by first | (left; dsimp only; omega) | (right; dsimp only; omega) | (left; simp; omega) | (right; simp; omega)) _ | with_reducible refine Kept.but ?_ (by assumption) (by first | omega | (simp; omega)) | with_reducible refine Kept.below ?_ (by assumption)))).toQ (fun b hb _ => Qn.of (HQ.out b (by first | omega | (simp at hb; omega))) (by first | omega | (simp at hb; omega))))).mono ?_
        rintro e w4 ⟨⟨v4, rfl, hx4⟩, hp4⟩
        obtain ⟨nn4, tx4, ox4, a4, ln4, cp4, rfl, htx4⟩ := hx4.form2
        have HX4 := Hid.intro hx4
        clear hx4 htx4
        have hb4 := But.of (R := R) hp4
        have l4 := hb4.size
        (try simp at l4)
        have HR4 : Hid (Box w4 (w.heap.size + 1) (.int .i64 0) (.string ⟨#[]⟩) (.string ⟨#[]⟩) (.int .i64 0) (.int .i64 0) (.slice none 0 0)) := Hid.intro (Box.but hb4 (by first | omega | (simp; done) | (simp; omega)) (by repeat (first | with_reducible exact HR3.out | with_reducible refine Box.drew ?_ | with_reducible refine Box.alloc _ ?_ | with_reducible refine Box.other (by first | (dsimp only; omega) | (simp; omega)) ?_)))
        have HL4 : Hid (Box w4 (w.heap.size + 1 + 1) (.int .i64 (xl.kind : Int)) (.string tx) (.string ox) (.int .i64 nn) (.int .i64 (xl.pl : Int)) (.slice a ln cp)) := Hid.intro (Box.but hb4 (by first | omega | (simp; done) | (simp; omega)) (by repeat (first | with_reducible exact HL3.out | with_reducible refine Box.drew ?_ | with_reducible refine Box.alloc _ ?_ | with_reducible refine Box.other (by first | (dsimp only; omega) | (simp; omega)) ?_)))
        clear HR3 HL3
        have HS4 : Hid (St Z R en w4 r3) := Hid.intro (St.to (HS3.out.below (by repeat (first | with_reducible exact Below.refl _ _ | with_reducible refine Below.alloc ?_ (by first | omega | (simp; done) | (simp; omega)) _ | with_reducible refine Below.drew ?_ | with_reducible refine Below.setCell ?_ (by first | (dsimp only; omega) | (simp; omega)) _ ))) hp4)
        clear hp4
        obtain ⟨y0, y1, y2, y3, y4, y5⟩ := HL4.out.cells
        obtain ⟨yf0, yf1, yf2, yf3, yf4, yf5⟩ := HL4.out.frees
        have hlen : tokLen R wr = us.length := HS.out.len
        go_wp2_with fail
        go_roundw
        case rel =>
          refine ⟨joinE 8 [] p0 xl x3, nn4, tx4, ox4, a4, ln4, cp4, r3, g, by omega, Hid.intro (by repeat (first | with_reducible exact HR4.out | with_reducible refine Box.drew ?_ | with_reducible refine Box.alloc _ ?_ | with_reducible refine Box.other (by first | (dsimp only; omega) | (simp; omega)) ?_)), Hid.intro (Box.set HL4.out), Hid.intro (HS4.out.below (by repeat (first | with_reducible exact Below.refl _ _ | with_reducible refine Below.alloc ?_ (by first | omega | (simp; done) | (simp; omega)) _ | with_reducible refine Below.drew ?_ | with_reducible refine Below.setCell ?_ (by first | (dsimp only; omega) | (simp; omega)) _ ))), Hid.intro (HX4.out.keep (by repeat (first | with_reducible exact KeptQ.refl _ _ | with_reducible refine KeptQ.alloc ?_ _ | with_reducible refine KeptQ.drew ?_ | with_reducible refine KeptQ.setCell ?_ (by intro h; have h2 := Qn.no h; first | (dsimp only at h2 ⊢; omega) | (simp at h2 ⊢; omega) | omega) _ | with_reducible refine KeptQ.but ?_ (by assumption) (Qn.nor HQR.out)))), Hid.intro (by repeat (first | with_reducible exact But.refl _ _ | with_reducible refine But.alloc ?_ _ | with_reducible refine But.drew ?_ | with_reducible refine But.setCell ?_ (by first | (left; dsimp only; omega) | (left; simp; omega)) _ | with_reducible refine But.trans ?_ (by assumption) | with_reducible refine But.below ?_ (by assumption))), ?_⟩
          show thenO _ _ _ _ = O
          rw [← HI3.out, HP3.out]
          exact congrArg _ run_tail.symm
        case measure =>
          refine Nat.lt_of_le_of_lt (Nat.le_of_eq (St.len (HS4.out.below (by repeat (first | with_reducible exact Below.refl _ _ | with_reducible refine Below.alloc ?_ (by first | omega | (simp; done) | (simp; omega)) _ | with_reducible refine Below.drew ?_ | with_reducible refine Below.setCell ?_ (by first | (dsimp only; omega) | (simp; omega)) _ ))))) ?_
          rw [hlen]; exact HLT.out
end Go.Proofs.YtkljakeccfnakaaGreatDoor
