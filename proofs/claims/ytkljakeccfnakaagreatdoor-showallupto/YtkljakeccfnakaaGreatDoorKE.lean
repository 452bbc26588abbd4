/-
  The walk of a prod.
-/
import Derived.Test.YtkljakeccfnakaaGreatDoorKB
namespace Go.Proofs.YtkljakeccfnakaaGreatDoor
open Go.RowKit

theorem prodK_then {en g p : Nat} {x : Ex} {k : Ex → Cmd} {ts : List Tok} : runC en (P en g) (prodK p x k) ts = thenO en g k (runC en (P en g) (prodK p x .ret) ts) := by
  simp only [prodK, run_call]
  cases P en g (.appL p x) ts with
  | ok a r =>
    show runC en (P en g) (.call (.prodL p a) k) r = thenO en g k (runC en (P en g) (.call (.prodL p a) .ret) r)
    rw [run_tail, run_call]
  | no r => rfl
  | lim q => rfl
  | out => rfl
theorem app_then {en g p : Nat} {x : Ex} {k : Ex → Cmd} {ts : List Tok} : runC en (P en g) (.call (.appL p x) k) ts = thenO en g k (runC en (P en g) (.call (.appL p x) .ret) ts) := by rw [run_tail, run_call]

set_option maxHeartbeats 8000000 in
theorem prod_goes {Z R en f : Nat} (KB : ∀ g, g ≤ f → Begins Z R en g 150) (KA : ∀ g, g ≤ f → Goes Z R en g 184 fun p x k => .call (.appL p x) k) : Goes Z R en f 181 fun p x k => prodK p x k := by
  intro p0 v0 x0 q k ts O w hw hq hqR hx0 hO hg
  have lz : Z ≤ w.heap.size := hw.size
  have lr : R < Z := hw.rz
  have HO := Hid.intro hO
  have HW := Hid.intro hw
  have HQ := Hid.intro hq
  have HQR := Hid.intro hqR
  obtain ⟨nn0, tx0, ox0, a0, ln0, cp0, rfl, htx0⟩ := hx0.form2
  have HX0 := Hid.intro hx0
  have HKB := Hid.intro KB
  have HKA := Hid.intro KA
  have HG0 := Hid.intro hg
  clear KB KA hw hO hg hx0 htx0 hq hqR
  have F0 := fld0; have F1 := fld1; have F2 := fld2; have F3 := fld3
  go_enter Tryz.func181, Tryz.ntmps181
  have HG1 : Hid (thenO en f (fun a => .call (.prodL p0 a) k) (runC en (P en f) (.call (.appL p0 x0) .ret) ts) = O) := Hid.intro (by rw [← HG0.out]; exact app_then.symm)
  clear HG0
  go_wp2_with fail
  have hn1 : runC en (P en f) (.call (.appL p0 x0) .ret) ts ≠ .out := then_out (f := f) (by rw [HG1.out]; exact HO.out)
  have HN1 := Hid.intro hn1
  clear hn1
  refine (HKA.out f (Nat.le_refl _) p0 _ x0 (Qn q w.heap.size (w.heap.size + 1) (w.heap.size + 1)) .ret ts _ _ (HW.out.below (by repeat (first | with_reducible exact Below.refl _ _ | with_reducible refine Below.alloc ?_ (by first | omega | (simp; done) | (simp; omega)) _ | with_reducible refine Below.drew ?_ | with_reducible refine Below.setCell ?_ (by first | (dsimp only; omega) | (simp; omega)) _ ))) (fun b hb => Qn.of (HQ.out b (by first | omega | (simp at hb; omega))) (by first | omega | (simp at hb; omega))) (Qn.nor HQR.out) ((HX0.out.imp (fun b h1 h2 => Qn.of h2 (by omega))).keep (by repeat (first | with_reducible exact KeptQ.refl _ _ | with_reducible refine KeptQ.alloc ?_ _ | with_reducible refine KeptQ.drew ?_ | with_reducible refine KeptQ.setCell ?_ (by intro h; have h2 := Qn.no h; first | (dsimp only at h2 ⊢; omega) | (simp at h2 ⊢; omega) | omega) _ | with_reducible refine KeptQ.but ?_ (by assumption) (Qn.nor HQR.out)))) HN1.out rfl).mono ?_
  rintro e w1 ⟨hb1, ⟨v1, x1, r1, rfl, hx1, hs, hG⟩ | ⟨c, p, rfl, hG⟩⟩
  rotate_left
  · exact ⟨rfl, (by repeat (first | with_reducible exact But.refl _ _ | with_reducible refine But.alloc ?_ _ | with_reducible refine But.drew ?_ | with_reducible refine But.setCell ?_ (by first | (left; dsimp only; omega) | (left; simp; omega)) _ | with_reducible refine But.trans ?_ (by assumption) | with_reducible refine But.below ?_ (by assumption))), Or.inr ⟨c, p, rfl, by rw [← HG1.out]; exact gone_then hG⟩⟩
  obtain ⟨nn1, tx1, ox1, a1, ln1, cp1, rfl, htx1⟩ := hx1.form2
  have HX1 := Hid.intro hx1
  have HS1 := Hid.intro hs
  have hm1 : runC en (P en f) (.call (.appL p0 x0) .ret) ts = .ok x1 r1 := hG.symm
  have HG2 : Hid (thenO en f k (P en f (.prodL p0 x1) r1) = O) := Hid.intro (by rw [← HG1.out, hm1, ← run_call]; rfl)
  clear hx1 htx1 hs hG hm1 HG1 HN1
  have l1 := hb1.size
  (try simp at l1)
  have HR1 : Hid (Box w1 (w.heap.size + 1) (.int .i64 0) (.string ⟨#[]⟩) (.string ⟨#[]⟩) (.int .i64 0) (.int .i64 0) (.slice none 0 0)) := Hid.intro (Box.but hb1 (by first | omega | (simp; done) | (simp; omega)) (Box.new (by simp)))
  go_wp2_with fail
  go_loopw [13] (fun _ wr => ∃ (xl : Ex) (nn : Int) (tx ox : ByteArray) (a : Option Addr) (ln cp : Nat) (us : List Tok) (g : Nat), g ≤ f ∧ Hid (Box wr (w.heap.size + 1) (.int .i64 0) (.string ⟨#[]⟩) (.string ⟨#[]⟩) (.int .i64 0) (.int .i64 0) (.slice none 0 0)) ∧ Hid (Box wr (w1.heap.size) (.int .i64 (xl.kind : Int)) (.string tx) (.string ox) (.int .i64 nn) (.int .i64 (xl.pl : Int)) (.slice a ln cp)) ∧ Hid (St Z R en wr us) ∧ Hid (ExQ (Qn q w.heap.size (w.heap.size + 1) w1.heap.size) wr (.agg #[.int .i64 (xl.kind : Int), .string tx, .string ox, .int .i64 nn, .int .i64 (xl.pl : Int), .slice a ln cp]) xl) ∧ Hid (But R w wr) ∧ Hid (thenO en f k (P en g (.prodL p0 xl) us) = O)) (fun _ wr => tokLen R wr)
  case atStart =>
    refine ⟨x1, nn1, tx1, ox1, a1, ln1, cp1, r1, f, Nat.le_refl _, Hid.intro (Box.alloc _ HR1.out), Hid.intro (Box.new rfl), Hid.intro (HS1.out.below (by repeat (first | with_reducible exact Below.refl _ _ | with_reducible refine Below.alloc ?_ (by first | omega | (simp; done) | (simp; omega)) _ | with_reducible refine Below.drew ?_ | with_reducible refine Below.setCell ?_ (by first | (dsimp only; omega) | (simp; omega)) _ ))), Hid.intro ((HX1.out.imp (fun b h1 h2 => Qn.of (Qn.q h2) (by have := Qn.no h2; omega))).keep (by repeat (first | with_reducible exact KeptQ.refl _ _ | with_reducible refine KeptQ.alloc ?_ _ | with_reducible refine KeptQ.drew ?_ | with_reducible refine KeptQ.setCell ?_ (by intro h; have h2 := Qn.no h; first | (dsimp only at h2 ⊢; omega) | (simp at h2 ⊢; omega) | omega) _ | with_reducible refine KeptQ.but ?_ (by assumption) (Qn.nor HQR.out)))), Hid.intro (by repeat (first | with_reducible exact But.refl _ _ | with_reducible refine But.alloc ?_ _ | with_reducible refine But.drew ?_ | with_reducible refine But.setCell ?_ (by first | (left; dsimp only; omega) | (left; simp; omega)) _ | with_reducible refine But.trans ?_ (by assumption) | with_reducible refine But.below ?_ (by assumption))), HG2⟩
  case round =>
    obtain ⟨xl, nn, tx, ox, a, ln, cp, us, g, hgf, HR, HL, HS, HXl, HB, HI⟩ := hrel
    have hB := HB.out
    have lB := hB.size
    have lR := HR.out.lt
    have lL := HL.out.lt
    cases g with
    | zero => exact absurd (HI.out.symm.trans rfl) HO.out
    | succ g =>
      have HI2 : Hid (thenO en f k (runC en (P en g) (body (.prodL p0 xl)) us) = O) := HI
      clear HI
      go_wp2_with fail
      refine (sees_any Z R en us ⟨#[42]⟩ (by decide) _ (HS.out.below (by repeat (first | with_reducible exact Below.refl _ _ | with_reducible refine Below.alloc ?_ (by first | omega | (simp; done) | (simp; omega)) _ | with_reducible refine Below.drew ?_ | with_reducible refine Below.setCell ?_ (by first | (dsimp only; omega) | (simp; omega)) _ )))).mono ?_
      rintro e w2 ⟨rfl, hp2⟩
      have hb2 := But.of (R := R) hp2
      have l2 := hb2.size
      (try simp at l2)
      have HR2 : Hid (Box w2 (w.heap.size + 1) (.int .i64 0) (.string ⟨#[]⟩) (.string ⟨#[]⟩) (.int .i64 0) (.int .i64 0) (.slice none 0 0)) := Hid.intro (Box.but hb2 (by first | omega | (simp; done) | (simp; omega)) (by repeat (first | with_reducible exact HR.out | with_reducible refine Box.drew ?_ | with_reducible refine Box.alloc _ ?_ | with_reducible refine Box.other (by first | (dsimp only; omega) | (simp; omega)) ?_)))
      have HL2 : Hid (Box w2 (w1.heap.size) (.int .i64 (xl.kind : Int)) (.string tx) (.string ox) (.int .i64 nn) (.int .i64 (xl.pl : Int)) (.slice a ln cp)) := Hid.intro (Box.but hb2 (by first | omega | (simp; done) | (simp; omega)) (by repeat (first | with_reducible exact HL.out | with_reducible refine Box.drew ?_ | with_reducible refine Box.alloc _ ?_ | with_reducible refine Box.other (by first | (dsimp only; omega) | (simp; omega)) ?_)))
      clear HR HL
      have HS2 : Hid (St Z R en w2 us) := Hid.intro (St.to (HS.out.below (by repeat (first | with_reducible exact Below.refl _ _ | with_reducible refine Below.alloc ?_ (by first | omega | (simp; done) | (simp; omega)) _ | with_reducible refine Below.drew ?_ | with_reducible refine Below.setCell ?_ (by first | (dsimp only; omega) | (simp; omega)) _ ))) hp2)
      clear hp2
      rw [show (⟨#[42]⟩ : ByteArray).data.toList = [42] from rfl]
      cases c1 : hd (isT [42]) us
      rotate_left
      · have hsg : hd (fun t => isT [42] t || isT [47] t) us = true := by cases us with | nil => cases c1 | cons t r => simp only [hd] at c1 ⊢; rw [c1]; rfl
        clear c1
        cases us with
        | nil => cases hsg
        | cons t us' =>
          have HI3 : Hid (thenO en f k (thenO en g (fun u => .call (.appL (place en us') u) (fun b => .call (.prodL p0 (joinE 21 t.text p0 xl b)) .ret)) (P en g .unit us')) = O) := Hid.intro (by rw [← HI2.out, ← run_call]; simp only [body, unitK, runC]; rw [if_pos hsg])
          clear hsg HI2
          have hne : P en g .unit us' ≠ .out := then_out (f := g) (then_out (f := f) (by rw [HI3.out]; exact HO.out))
          have HNE := Hid.intro hne
          clear hne
          go_wp2_with fail
          refine (take_any Z R en t us' _ (HS2.out.below (by repeat (first | with_reducible exact Below.refl _ _ | with_reducible refine Below.alloc ?_ (by first | omega | (simp; done) | (simp; omega)) _ | with_reducible refine Below.drew ?_ | with_reducible refine Below.setCell ?_ (by first | (dsimp only; omega) | (simp; omega)) _ )))).mono ?_
          rintro e w3 ⟨rfl, hs, hb3⟩
          unfold tkV
          have l3 := hb3.size
          (try simp at l3)
          have HR3 : Hid (Box w3 (w.heap.size + 1) (.int .i64 0) (.string ⟨#[]⟩) (.string ⟨#[]⟩) (.int .i64 0) (.int .i64 0) (.slice none 0 0)) := Hid.intro (Box.but hb3 (by first | omega | (simp; done) | (simp; omega)) (by repeat (first | with_reducible exact HR2.out | with_reducible refine Box.drew ?_ | with_reducible refine Box.alloc _ ?_ | with_reducible refine Box.other (by first | (dsimp only; omega) | (simp; omega)) ?_)))
          have HL3 : Hid (Box w3 (w1.heap.size) (.int .i64 (xl.kind : Int)) (.string tx) (.string ox) (.int .i64 nn) (.int .i64 (xl.pl : Int)) (.slice a ln cp)) := Hid.intro (Box.but hb3 (by first | omega | (simp; done) | (simp; omega)) (by repeat (first | with_reducible exact HL2.out | with_reducible refine Box.drew ?_ | with_reducible refine Box.alloc _ ?_ | with_reducible refine Box.other (by first | (dsimp only; omega) | (simp; omega)) ?_)))
          clear HR2 HL2
          have HS3 := Hid.intro hs
          clear hs
          go_wp2_with fail
          refine wp_region_held_tail (S := fun w' => Box w' (w1.heap.size) (.int .i64 (xl.kind : Int)) (.string tx) (.string ox) (.int .i64 nn) (.int .i64 (xl.pl : Int)) (.slice a ln cp)) 9 (by kernel_rfl) (by kernel_rfl) (by repeat (first | with_reducible exact HL3.out | with_reducible refine Box.drew ?_ | with_reducible refine Box.alloc _ ?_ | with_reducible refine Box.other (by first | (dsimp only; omega) | (simp; omega)) ?_)) (fun hHeld => ?_)
          simp only [List.take_succ_cons, List.take_zero, List.drop_succ_cons, List.drop_zero]
          refine wpAnyH_take (i := 0) (v := .string ⟨t.text.toArray⟩) rfl (by kernel_rfl) (by kernel_rfl) (by kernel_rfl) (fun _ _ _ h => h) (Or.inl ⟨by rfl, by intro w _; go_simp⟩) hHeld ?_
          refine wpAnyH_take (i := 1) (v := .int .i64 (p0 : Nat)) rfl (by kernel_rfl) (by kernel_rfl) (by kernel_rfl) (fun _ _ _ h => h) (Or.inl ⟨by rfl, by intro w _; go_simp⟩) hHeld ?_
          refine wpAnyH_take (i := 2) (v := .agg #[.int .i64 (xl.kind : Int), .string tx, .string ox, .int .i64 nn, .int .i64 (xl.pl : Int), .slice a ln cp]) rfl (by kernel_rfl) (by kernel_rfl) (by kernel_rfl) (fun _ _ _ h => h) (Or.inl ⟨by rfl, by intro w hS; obtain ⟨y0, y1, y2, y3, y4, y5⟩ := Box.cells hS; go_simp⟩) hHeld ?_
          refine wpAnyH_take (i := 3) (v := .pointer (some ⟨R, 0, none⟩)) rfl (by kernel_rfl) (by kernel_rfl) (by kernel_rfl) (fun _ _ _ h => h) (Or.inl ⟨by rfl, by intro w _; go_simp⟩) hHeld ?_
          refine wpAnyH_take (i := 4) (v := .pointer (some ⟨R, 0, none⟩)) rfl (by kernel_rfl) (by kernel_rfl) (by kernel_rfl) (fun _ _ _ h => h) (Or.inl ⟨by rfl, by intro w _; go_simp⟩) hHeld ?_
          refine wpAnyH_ready (rs := [5]) (by kernel_rfl) (by simp) ?_
          refine AllReadyH.cons rfl (fun K hK => ?_) AllReadyH.nil
          go_simp
          refine (HKB.out g (by omega) us' _ (HS3.out.below (by repeat (first | with_reducible exact Below.refl _ _ | with_reducible refine Below.alloc ?_ (by first | omega | (simp; done) | (simp; omega)) _ | with_reducible refine Below.drew ?_ | with_reducible refine Below.setCell ?_ (by first | (dsimp only; omega) | (simp; omega)) _ ))) HNE.out).mono ?_
          rintro e w4 ⟨hb4, ⟨v4, x4, r4, rfl, hx4, hs, hP⟩ | ⟨c, p, rfl, hG⟩⟩
          rotate_left
          · exact ⟨rfl, (by repeat (first | with_reducible exact But.refl _ _ | with_reducible refine But.alloc ?_ _ | with_reducible refine But.drew ?_ | with_reducible refine But.setCell ?_ (by first | (left; dsimp only; omega) | (left; simp; omega)) _ | with_reducible refine But.trans ?_ (by assumption) | with_reducible refine But.below ?_ (by assumption))), Or.inr ⟨c, p, rfl, by rw [← HI3.out]; exact gone_then (gone_then hG)⟩⟩
          obtain ⟨nn4, tx4, ox4, a4, ln4, cp4, rfl, htx4⟩ := hx4.form2
          have HX4 := Hid.intro hx4
          have HS4 := Hid.intro hs
          have HP4 := Hid.intro hP
          clear hx4 hs htx4 hP
          have l4 := hb4.size
          (try simp at l4)
          have HR4 : Hid (Box w4 (w.heap.size + 1) (.int .i64 0) (.string ⟨#[]⟩) (.string ⟨#[]⟩) (.int .i64 0) (.int .i64 0) (.slice none 0 0)) := Hid.intro (Box.but hb4 (by first | omega | (simp; done) | (simp; omega)) (by repeat (first | with_reducible exact HR3.out | with_reducible refine Box.drew ?_ | with_reducible refine Box.alloc _ ?_ | with_reducible refine Box.other (by first | (dsimp only; omega) | (simp; omega)) ?_)))
          have HL4 : Hid (Box w4 (w1.heap.size) (.int .i64 (xl.kind : Int)) (.string tx) (.string ox) (.int .i64 nn) (.int .i64 (xl.pl : Int)) (.slice a ln cp)) := Hid.intro (Box.but hb4 (by first | omega | (simp; done) | (simp; omega)) (by repeat (first | with_reducible exact HL3.out | with_reducible refine Box.drew ?_ | with_reducible refine Box.alloc _ ?_ | with_reducible refine Box.other (by first | (dsimp only; omega) | (simp; omega)) ?_)))
          clear HR3 HL3
          refine hK.out _ _ (by repeat (first | with_reducible exact HL4.out | with_reducible refine Box.drew ?_ | with_reducible refine Box.alloc _ ?_ | with_reducible refine Box.other (by first | (dsimp only; omega) | (simp; omega)) ?_)) (fun hHeld => ?_)
          clear hK K
          have HI4 : Hid (thenO en f k (thenO en g (fun b => .call (.prodL p0 (joinE 21 t.text p0 xl b)) .ret) (runC en (P en g) (.call (.appL (place en us') x4) .ret) r4)) = O) := (by show _ = _; rw [← HI3.out, HP4.out, ← app_then]; rfl)
          have HLU := Hid.intro (P_eat en g .unit us' x4 r4 rfl HP4.out)
          have HN4 := Hid.intro (show runC en (P en g) (.call (.appL (place en us') x4) .ret) r4 ≠ .out from then_out (f := g) (then_out (f := f) (by rw [HI4.out]; exact HO.out)))
          clear HI3 HP4 HNE
          refine wpAnyH_take (i := 6) (v := .int .i64 (place en us' : Nat)) rfl (by kernel_rfl) (by kernel_rfl) (by kernel_rfl) (fun _ _ _ h => h) (Or.inl ⟨by rfl, by intro w _; go_simp⟩) hHeld ?_
          refine wpAnyH_take (i := 7) (v := .agg #[.int .i64 (x4.kind : Int), .string tx4, .string ox4, .int .i64 nn4, .int .i64 (x4.pl : Int), .slice a4 ln4 cp4]) rfl (by kernel_rfl) (by kernel_rfl) (by kernel_rfl) (fun _ _ _ h => h) (Or.inl ⟨by rfl, by intro w _; go_simp⟩) hHeld ?_
          refine wpAnyH_ready (rs := [8]) (by kernel_rfl) (by simp) ?_
          refine AllReadyH.cons rfl (fun K hK => ?_) AllReadyH.nil
          go_simp
          refine (HKA.out g (by omega) (place en us') _ x4 (Qn q w.heap.size (w.heap.size + 1) w1.heap.size) .ret r4 _ _ (HS4.out.below (by repeat (first | with_reducible exact Below.refl _ _ | with_reducible refine Below.alloc ?_ (by first | omega | (simp; done) | (simp; omega)) _ | with_reducible refine Below.drew ?_ | with_reducible refine Below.setCell ?_ (by first | (dsimp only; omega) | (simp; omega)) _ ))) (fun b hb => Qn.of (HQ.out b (by first | omega | (simp at hb; omega))) (by first | omega | (simp at hb; omega))) (Qn.nor HQR.out) ((HX4.out.keep (by repeat (first | with_reducible exact Kept.refl _ _ | with_reducible refine Kept.alloc ?_ _ | with_reducible refine Kept.drew ?_ | with_reducible refine Kept.setCell ?_ (by first | (left; dsimp only; omega) | (right; dsimp only; omega) | (left; simp; omega) | (right; simp; omega)) _ | with_reducible refine Kept.but ?_ (by assumption) (by first | omega | (simp; omega)) | with_reducible refine Kept.below ?_ (by assumption)))).toQ (fun b hb _ => Qn.of (HQ.out b (by first | omega | (simp at hb; omega))) (by first | omega | (simp at hb; omega)))) HN4.out rfl).mono ?_
          rintro e w5 ⟨hb5, ⟨v5, x5, r5, rfl, hx5, hs, hP⟩ | ⟨c, p, rfl, hG⟩⟩
          rotate_left
          · exact ⟨rfl, (by repeat (first | with_reducible exact But.refl _ _ | with_reducible refine But.alloc ?_ _ | with_reducible refine But.drew ?_ | with_reducible refine But.setCell ?_ (by first | (left; dsimp only; omega) | (left; simp; omega)) _ | with_reducible refine But.trans ?_ (by assumption) | with_reducible refine But.below ?_ (by assumption))), Or.inr ⟨c, p, rfl, by rw [← HI4.out]; exact gone_then (gone_then hG)⟩⟩
          obtain ⟨nn5, tx5, ox5, a5, ln5, cp5, rfl, htx5⟩ := hx5.form2
          have HX5 := Hid.intro hx5
          have HS5 := Hid.intro hs
          have HP5 := Hid.intro hP
          clear hx5 hs htx5 hP
          have l5 := hb5.size
          (try simp at l5)
          have HR5 : Hid (Box w5 (w.heap.size + 1) (.int .i64 0) (.string ⟨#[]⟩) (.string ⟨#[]⟩) (.int .i64 0) (.int .i64 0) (.slice none 0 0)) := Hid.intro (Box.but hb5 (by first | omega | (simp; done) | (simp; omega)) (by repeat (first | with_reducible exact HR4.out | with_reducible refine Box.drew ?_ | with_reducible refine Box.alloc _ ?_ | with_reducible refine Box.other (by first | (dsimp only; omega) | (simp; omega)) ?_)))
          have HL5 : Hid (Box w5 (w1.heap.size) (.int .i64 (xl.kind : Int)) (.string tx) (.string ox) (.int .i64 nn) (.int .i64 (xl.pl : Int)) (.slice a ln cp)) := Hid.intro (Box.but hb5 (by first | omega | (simp; done) | (simp; omega)) (by repeat (first | with_reducible exact HL4.out | with_reducible refine Box.drew ?_ | with_reducible refine Box.alloc _ ?_ | with_reducible refine Box.other (by first | (dsimp only; omega) | (simp; omega)) ?_)))
          clear HR4 HL4
          refine hK.out _ _ (by repeat (first | with_reducible exact HL5.out | with_reducible refine Box.drew ?_ | with_reducible refine Box.alloc _ ?_ | with_reducible refine Box.other (by first | (dsimp only; omega) | (simp; omega)) ?_)) (fun hHeld => ?_)
          clear hK K
          have hll := run_left (en := en) (P_left en g) (.call (.appL (place en us') x4) .ret) r4
          rw [show runC en (P en g) (.call (.appL (place en us') x4) .ret) r4 = .ok x5 r5 from HP5.out.symm] at hll
          have HLT : Hid (r5.length < (t :: us').length) := (by have := HLU.out; show _ < _; rw [List.length_cons]; simp only [Out.Left] at hll; omega)
          clear hll HLU HN4
          refine wpAnyH_done (by kernel_rfl) ?_ _
          show wpList _ _ _ _ _ _
          clear hHeld
          go_wp2_with fail
          refine (join_any 21 ⟨t.text.toArray⟩ p0 _ _ xl x5 (Qn q w.heap.size (w.heap.size + 1) w1.heap.size) _ (fun b hb => Qn.of (HQ.out b (by first | omega | (simp at hb; omega))) (by first | omega | (simp at hb; omega))) (HXl.out.keep (by repeat (first | with_reducible exact KeptQ.refl _ _ | with_reducible refine KeptQ.alloc ?_ _ | with_reducible refine KeptQ.drew ?_ | with_reducible refine KeptQ.setCell ?_ (by intro h; have h2 := Qn.no h; first | (dsimp only at h2 ⊢; omega) | (simp at h2 ⊢; omega) | omega) _ | with_reducible refine KeptQ.but ?_ (by assumption) (Qn.nor HQR.out)))) (HX5.out.keep (by repeat (first | with_reducible exact KeptQ.refl _ _ | with_reducible refine KeptQ.alloc ?_ _ | with_reducible refine KeptQ.drew ?_ | with_reducible refine KeptQ.setCell ?_ (by intro h; have h2 := Qn.no h; first | (dsimp only at h2 ⊢; omega) | (simp at h2 ⊢; omega) | omega) _ | with_reducible refine KeptQ.but ?_ (by assumption) (Qn.nor HQR.out))))).mono ?_
          rintro e w6 ⟨⟨v6, rfl, hx6⟩, hp6⟩
          obtain ⟨nn6, tx6, ox6, a6, ln6, cp6, rfl, htx6⟩ := hx6.form2
          have HX6 := Hid.intro hx6
          clear hx6 htx6
          have hb6 := But.of (R := R) hp6
          have l6 := hb6.size
          (try simp at l6)
          have HR6 : Hid (Box w6 (w.heap.size + 1) (.int .i64 0) (.string ⟨#[]⟩) (.string ⟨#[]⟩) (.int .i64 0) (.int .i64 0) (.slice none 0 0)) := Hid.intro (Box.but hb6 (by first | omega | (simp; done) | (simp; omega)) (by repeat (first | with_reducible exact HR5.out | with_reducible refine Box.drew ?_ | with_reducible refine Box.alloc _ ?_ | with_reducible refine Box.other (by first | (dsimp only; omega) | (simp; omega)) ?_)))
          have HL6 : Hid (Box w6 (w1.heap.size) (.int .i64 (xl.kind : Int)) (.string tx) (.string ox) (.int .i64 nn) (.int .i64 (xl.pl : Int)) (.slice a ln cp)) := Hid.intro (Box.but hb6 (by first | omega | (simp; done) | (simp; omega)) (by repeat (first | with_reducible exact HL5.out | with_reducible refine Box.drew ?_ | with_reducible refine Box.alloc _ ?_ | with_reducible refine Box.other (by first | (dsimp only; omega) | (simp; omega)) ?_)))
          clear HR5 HL5
          have HS6 : Hid (St Z R en w6 r5) := Hid.intro (St.to (HS5.out.below (by repeat (first | with_reducible exact Below.refl _ _ | with_reducible refine Below.alloc ?_ (by first | omega | (simp; done) | (simp; omega)) _ | with_reducible refine Below.drew ?_ | with_reducible refine Below.setCell ?_ (by first | (dsimp only; omega) | (simp; omega)) _ ))) hp6)
          clear hp6
          obtain ⟨y0, y1, y2, y3, y4, y5⟩ := HL6.out.cells
          obtain ⟨yf0, yf1, yf2, yf3, yf4, yf5⟩ := HL6.out.frees
          have hlen : tokLen R wr = (t :: us').length := HS.out.len
          go_wp2_with fail
          go_roundw
          case rel =>
            refine ⟨joinE 21 t.text p0 xl x5, nn6, tx6, ox6, a6, ln6, cp6, r5, g, by omega, Hid.intro (by repeat (first | with_reducible exact HR6.out | with_reducible refine Box.drew ?_ | with_reducible refine Box.alloc _ ?_ | with_reducible refine Box.other (by first | (dsimp only; omega) | (simp; omega)) ?_)), Hid.intro (Box.set HL6.out), Hid.intro (HS6.out.below (by repeat (first | with_reducible exact Below.refl _ _ | with_reducible refine Below.alloc ?_ (by first | omega | (simp; done) | (simp; omega)) _ | with_reducible refine Below.drew ?_ | with_reducible refine Below.setCell ?_ (by first | (dsimp only; omega) | (simp; omega)) _ ))), Hid.intro (HX6.out.keep (by repeat (first | with_reducible exact KeptQ.refl _ _ | with_reducible refine KeptQ.alloc ?_ _ | with_reducible refine KeptQ.drew ?_ | with_reducible refine KeptQ.setCell ?_ (by intro h; have h2 := Qn.no h; first | (dsimp only at h2 ⊢; omega) | (simp at h2 ⊢; omega) | omega) _ | with_reducible refine KeptQ.but ?_ (by assumption) (Qn.nor HQR.out)))), Hid.intro (by repeat (first | with_reducible exact But.refl _ _ | with_reducible refine But.alloc ?_ _ | with_reducible refine But.drew ?_ | with_reducible refine But.setCell ?_ (by first | (left; dsimp only; omega) | (left; simp; omega)) _ | with_reducible refine But.trans ?_ (by assumption) | with_reducible refine But.below ?_ (by assumption))), ?_⟩
            show thenO _ _ _ _ = O
            rw [← HI4.out, show runC en (P en g) (.call (.appL (place en us') x4) .ret) r4 = .ok x5 r5 from HP5.out.symm]
            exact congrArg _ run_tail.symm
          case measure =>
            refine Nat.lt_of_le_of_lt (Nat.le_of_eq (St.len (HS6.out.below (by repeat (first | with_reducible exact Below.refl _ _ | with_reducible refine Below.alloc ?_ (by first | omega | (simp; done) | (simp; omega)) _ | with_reducible refine Below.drew ?_ | with_reducible refine Below.setCell ?_ (by first | (dsimp only; omega) | (simp; omega)) _ ))))) ?_
            rw [hlen]; exact HLT.out
      go_wp2_with fail
      refine (sees_any Z R en us ⟨#[47]⟩ (by decide) _ (HS2.out.below (by repeat (first | with_reducible exact Below.refl _ _ | with_reducible refine Below.alloc ?_ (by first | omega | (simp; done) | (simp; omega)) _ | with_reducible refine Below.drew ?_ | with_reducible refine Below.setCell ?_ (by first | (dsimp only; omega) | (simp; omega)) _ )))).mono ?_
      rintro e w7 ⟨rfl, hp7⟩
      have hb7 := But.of (R := R) hp7
      have l7 := hb7.size
      (try simp at l7)
      have HR7 : Hid (Box w7 (w.heap.size + 1) (.int .i64 0) (.string ⟨#[]⟩) (.string ⟨#[]⟩) (.int .i64 0) (.int .i64 0) (.slice none 0 0)) := Hid.intro (Box.but hb7 (by first | omega | (simp; done) | (simp; omega)) (by repeat (first | with_reducible exact HR2.out | with_reducible refine Box.drew ?_ | with_reducible refine Box.alloc _ ?_ | with_reducible refine Box.other (by first | (dsimp only; omega) | (simp; omega)) ?_)))
      have HL7 : Hid (Box w7 (w1.heap.size) (.int .i64 (xl.kind : Int)) (.string tx) (.string ox) (.int .i64 nn) (.int .i64 (xl.pl : Int)) (.slice a ln cp)) := Hid.intro (Box.but hb7 (by first | omega | (simp; done) | (simp; omega)) (by repeat (first | with_reducible exact HL2.out | with_reducible refine Box.drew ?_ | with_reducible refine Box.alloc _ ?_ | with_reducible refine Box.other (by first | (dsimp only; omega) | (simp; omega)) ?_)))
      clear HR2 HL2
      have HS7 : Hid (St Z R en w7 us) := Hid.intro (St.to (HS2.out.below (by repeat (first | with_reducible exact Below.refl _ _ | with_reducible refine Below.alloc ?_ (by first | omega | (simp; done) | (simp; omega)) _ | with_reducible refine Below.drew ?_ | with_reducible refine Below.setCell ?_ (by first | (dsimp only; omega) | (simp; omega)) _ ))) hp7)
      clear hp7
      rw [show (⟨#[47]⟩ : ByteArray).data.toList = [47] from rfl]
      cases c2 : hd (isT [47]) us
      rotate_left
      · have hsg : hd (fun t => isT [42] t || isT [47] t) us = true := by cases us with | nil => cases c2 | cons t r => simp only [hd] at c2 ⊢; rw [c2]; simp
        clear c1 c2
        cases us with
        | nil => cases hsg
        | cons t us' =>
          have HI3 : Hid (thenO en f k (thenO en g (fun u => .call (.appL (place en us') u) (fun b => .call (.prodL p0 (joinE 21 t.text p0 xl b)) .ret)) (P en g .unit us')) = O) := Hid.intro (by rw [← HI2.out, ← run_call]; simp only [body, unitK, runC]; rw [if_pos hsg])
          clear hsg HI2
          have hne : P en g .unit us' ≠ .out := then_out (f := g) (then_out (f := f) (by rw [HI3.out]; exact HO.out))
          have HNE := Hid.intro hne
          clear hne
          go_wp2_with fail
          refine (take_any Z R en t us' _ (HS7.out.below (by repeat (first | with_reducible exact Below.refl _ _ | with_reducible refine Below.alloc ?_ (by first | omega | (simp; done) | (simp; omega)) _ | with_reducible refine Below.drew ?_ | with_reducible refine Below.setCell ?_ (by first | (dsimp only; omega) | (simp; omega)) _ )))).mono ?_
          rintro e w8 ⟨rfl, hs, hb8⟩
          unfold tkV
          have l8 := hb8.size
          (try simp at l8)
          have HR8 : Hid (Box w8 (w.heap.size + 1) (.int .i64 0) (.string ⟨#[]⟩) (.string ⟨#[]⟩) (.int .i64 0) (.int .i64 0) (.slice none 0 0)) := Hid.intro (Box.but hb8 (by first | omega | (simp; done) | (simp; omega)) (by repeat (first | with_reducible exact HR7.out | with_reducible refine Box.drew ?_ | with_reducible refine Box.alloc _ ?_ | with_reducible refine Box.other (by first | (dsimp only; omega) | (simp; omega)) ?_)))
          have HL8 : Hid (Box w8 (w1.heap.size) (.int .i64 (xl.kind : Int)) (.string tx) (.string ox) (.int .i64 nn) (.int .i64 (xl.pl : Int)) (.slice a ln cp)) := Hid.intro (Box.but hb8 (by first | omega | (simp; done) | (simp; omega)) (by repeat (first | with_reducible exact HL7.out | with_reducible refine Box.drew ?_ | with_reducible refine Box.alloc _ ?_ | with_reducible refine Box.other (by first | (dsimp only; omega) | (simp; omega)) ?_)))
          clear HR7 HL7
          have HS8 := Hid.intro hs
          clear hs
          go_wp2_with fail
          refine wp_region_held_tail (S := fun w' => Box w' (w1.heap.size) (.int .i64 (xl.kind : Int)) (.string tx) (.string ox) (.int .i64 nn) (.int .i64 (xl.pl : Int)) (.slice a ln cp)) 9 (by kernel_rfl) (by kernel_rfl) (by repeat (first | with_reducible exact HL8.out | with_reducible refine Box.drew ?_ | with_reducible refine Box.alloc _ ?_ | with_reducible refine Box.other (by first | (dsimp only; omega) | (simp; omega)) ?_)) (fun hHeld => ?_)
          simp only [List.take_succ_cons, List.take_zero, List.drop_succ_cons, List.drop_zero]
          refine wpAnyH_take (i := 0) (v := .string ⟨t.text.toArray⟩) rfl (by kernel_rfl) (by kernel_rfl) (by kernel_rfl) (fun _ _ _ h => h) (Or.inl ⟨by rfl, by intro w _; go_simp⟩) hHeld ?_
          refine wpAnyH_take (i := 1) (v := .int .i64 (p0 : Nat)) rfl (by kernel_rfl) (by kernel_rfl) (by kernel_rfl) (fun _ _ _ h => h) (Or.inl ⟨by rfl, by intro w _; go_simp⟩) hHeld ?_
          refine wpAnyH_take (i := 2) (v := .agg #[.int .i64 (xl.kind : Int), .string tx, .string ox, .int .i64 nn, .int .i64 (xl.pl : Int), .slice a ln cp]) rfl (by kernel_rfl) (by kernel_rfl) (by kernel_rfl) (fun _ _ _ h => h) (Or.inl ⟨by rfl, by intro w hS; obtain ⟨y0, y1, y2, y3, y4, y5⟩ := Box.cells hS; go_simp⟩) hHeld ?_
          refine wpAnyH_take (i := 3) (v := .pointer (some ⟨R, 0, none⟩)) rfl (by kernel_rfl) (by kernel_rfl) (by kernel_rfl) (fun _ _ _ h => h) (Or.inl ⟨by rfl, by intro w _; go_simp⟩) hHeld ?_
          refine wpAnyH_take (i := 4) (v := .pointer (some ⟨R, 0, none⟩)) rfl (by kernel_rfl) (by kernel_rfl) (by kernel_rfl) (fun _ _ _ h => h) (Or.inl ⟨by rfl, by intro w _; go_simp⟩) hHeld ?_
          refine wpAnyH_ready (rs := [5]) (by kernel_rfl) (by simp) ?_
          refine AllReadyH.cons rfl (fun K hK => ?_) AllReadyH.nil
          go_simp
          refine (HKB.out g (by omega) us' _ (HS8.out.below (by repeat (first | with_reducible exact Below.refl _ _ | with_reducible refine Below.alloc ?_ (by first | omega | (simp; done) | (simp; omega)) _ | with_reducible refine Below.drew ?_ | with_reducible refine Below.setCell ?_ (by first | (dsimp only; omega) | (simp; omega)) _ ))) HNE.out).mono ?_
          rintro e w9 ⟨hb9, ⟨v9, x9, r9, rfl, hx9, hs, hP⟩ | ⟨c, p, rfl, hG⟩⟩
          rotate_left
          · exact ⟨rfl, (by repeat (first | with_reducible exact But.refl _ _ | with_reducible refine But.alloc ?_ _ | with_reducible refine But.drew ?_ | with_reducible refine But.setCell ?_ (by first | (left; dsimp only; omega) | (left; simp; omega)) _ | with_reducible refine But.trans ?_ (by assumption) | with_reducible refine But.below ?_ (by assumption))), Or.inr ⟨c, p, rfl, by rw [← HI3.out]; exact gone_then (gone_then hG)⟩⟩
          obtain ⟨nn9, tx9, ox9, a9, ln9, cp9, rfl, htx9⟩ := hx9.form2
          have HX9 := Hid.intro hx9
          have HS9 := Hid.intro hs
          have HP9 := Hid.intro hP
          clear hx9 hs htx9 hP
          have l9 := hb9.size
          (try simp at l9)
          have HR9 : Hid (Box w9 (w.heap.size + 1) (.int .i64 0) (.string ⟨#[]⟩) (.string ⟨#[]⟩) (.int .i64 0) (.int .i64 0) (.slice none 0 0)) := Hid.intro (Box.but hb9 (by first | omega | (simp; done) | (simp; omega)) (by repeat (first | with_reducible exact HR8.out | with_reducible refine Box.drew ?_ | with_reducible refine Box.alloc _ ?_ | with_reducible refine Box.other (by first | (dsimp only; omega) | (simp; omega)) ?_)))
          have HL9 : Hid (Box w9 (w1.heap.size) (.int .i64 (xl.kind : Int)) (.string tx) (.string ox) (.int .i64 nn) (.int .i64 (xl.pl : Int)) (.slice a ln cp)) := Hid.intro (Box.but hb9 (by first | omega | (simp; done) | (simp; omega)) (by repeat (first | with_reducible exact HL8.out | with_reducible refine Box.drew ?_ | with_reducible refine Box.alloc _ ?_ | with_reducible refine Box.other (by first | (dsimp only; omega) | (simp; omega)) ?_)))
          clear HR8 HL8
          refine hK.out _ _ (by repeat (first | with_reducible exact HL9.out | with_reducible refine Box.drew ?_ | with_reducible refine Box.alloc _ ?_ | with_reducible refine Box.other (by first | (dsimp only; omega) | (simp; omega)) ?_)) (fun hHeld => ?_)
          clear hK K
          have HI4 : Hid (thenO en f k (thenO en g (fun b => .call (.prodL p0 (joinE 21 t.text p0 xl b)) .ret) (runC en (P en g) (.call (.appL (place en us') x9) .ret) r9)) = O) := (by show _ = _; rw [← HI3.out, HP9.out, ← app_then]; rfl)
          have HLU := Hid.intro (P_eat en g .unit us' x9 r9 rfl HP9.out)
          have HN4 := Hid.intro (show runC en (P en g) (.call (.appL (place en us') x9) .ret) r9 ≠ .out from then_out (f := g) (then_out (f := f) (by rw [HI4.out]; exact HO.out)))
          clear HI3 HP9 HNE
          refine wpAnyH_take (i := 6) (v := .int .i64 (place en us' : Nat)) rfl (by kernel_rfl) (by kernel_rfl) (by kernel_rfl) (fun _ _ _ h => h) (Or.inl ⟨by rfl, by intro w _; go_simp⟩) hHeld ?_
          refine wpAnyH_take (i := 7) (v := .agg #[.int .i64 (x9.kind : Int), .string tx9, .string ox9, .int .i64 nn9, .int .i64 (x9.pl : Int), .slice a9 ln9 cp9]) rfl (by kernel_rfl) (by kernel_rfl) (by kernel_rfl) (fun _ _ _ h => h) (Or.inl ⟨by rfl, by intro w _; go_simp⟩) hHeld ?_
          refine wpAnyH_ready (rs := [8]) (by kernel_rfl) (by simp) ?_
          refine AllReadyH.cons rfl (fun K hK => ?_) AllReadyH.nil
          go_simp
          refine (HKA.out g (by omega) (place en us') _ x9 (Qn q w.heap.size (w.heap.size + 1) w1.heap.size) .ret r9 _ _ (HS9.out.below (by repeat (first | with_reducible exact Below.refl _ _ | with_reducible refine Below.alloc ?_ (by first | omega | (simp; done) | (simp; omega)) _ | with_reducible refine Below.drew ?_ | with_reducible refine Below.setCell ?_ (by first | (dsimp only; omega) | (simp; omega)) _ ))) (fun b hb => Qn.of (HQ.out b (by first | omega | (simp at hb; omega))) (by first | omega | (simp at hb; omega))) (Qn.nor HQR.out) ((HX9.out.keep (by repeat (first | with_reducible exact Kept.refl _ _ | with_reducible refine Kept.alloc ?_ _ | with_reducible refine Kept.drew ?_ | with_reducible refine Kept.setCell ?_ (by first | (left; dsimp only; omega) | (right; dsimp only; omega) | (left; simp; omega) | (right; simp; omega)) _ | with_reducible refine Kept.but ?_ (by assumption) (by first | omega | (simp; omega)) | with_reducible refine Kept.below ?_ (by assumption)))).toQ (fun b hb _ => Qn.of (HQ.out b (by first | omega | (simp at hb; omega))) (by first | omega | (simp at hb; omega)))) HN4.out rfl).mono ?_
          rintro e w10 ⟨hb10, ⟨v10, x10, r10, rfl, hx10, hs, hP⟩ | ⟨c, p, rfl, hG⟩⟩
          rotate_left
          · exact ⟨rfl, (by repeat (first | with_reducible exact But.refl _ _ | with_reducible refine But.alloc ?_ _ | with_reducible refine But.drew ?_ | with_reducible refine But.setCell ?_ (by first | (left; dsimp only; omega) | (left; simp; omega)) _ | with_reducible refine But.trans ?_ (by assumption) | with_reducible refine But.below ?_ (by assumption))), Or.inr ⟨c, p, rfl, by rw [← HI4.out]; exact gone_then (gone_then hG)⟩⟩
          obtain ⟨nn10, tx10, ox10, a10, ln10, cp10, rfl, htx10⟩ := hx10.form2
          have HX10 := Hid.intro hx10
          have HS10 := Hid.intro hs
          have HP10 := Hid.intro hP
          clear hx10 hs htx10 hP
          have l10 := hb10.size
          (try simp at l10)
          have HR10 : Hid (Box w10 (w.heap.size + 1) (.int .i64 0) (.string ⟨#[]⟩) (.string ⟨#[]⟩) (.int .i64 0) (.int .i64 0) (.slice none 0 0)) := Hid.intro (Box.but hb10 (by first | omega | (simp; done) | (simp; omega)) (by repeat (first | with_reducible exact HR9.out | with_reducible refine Box.drew ?_ | with_reducible refine Box.alloc _ ?_ | with_reducible refine Box.other (by first | (dsimp only; omega) | (simp; omega)) ?_)))
          have HL10 : Hid (Box w10 (w1.heap.size) (.int .i64 (xl.kind : Int)) (.string tx) (.string ox) (.int .i64 nn) (.int .i64 (xl.pl : Int)) (.slice a ln cp)) := Hid.intro (Box.but hb10 (by first | omega | (simp; done) | (simp; omega)) (by repeat (first | with_reducible exact HL9.out | with_reducible refine Box.drew ?_ | with_reducible refine Box.alloc _ ?_ | with_reducible refine Box.other (by first | (dsimp only; omega) | (simp; omega)) ?_)))
          clear HR9 HL9
          refine hK.out _ _ (by repeat (first | with_reducible exact HL10.out | with_reducible refine Box.drew ?_ | with_reducible refine Box.alloc _ ?_ | with_reducible refine Box.other (by first | (dsimp only; omega) | (simp; omega)) ?_)) (fun hHeld => ?_)
          clear hK K
          have hll := run_left (en := en) (P_left en g) (.call (.appL (place en us') x9) .ret) r9
          rw [show runC en (P en g) (.call (.appL (place en us') x9) .ret) r9 = .ok x10 r10 from HP10.out.symm] at hll
          have HLT : Hid (r10.length < (t :: us').length) := (by have := HLU.out; show _ < _; rw [List.length_cons]; simp only [Out.Left] at hll; omega)
          clear hll HLU HN4
          refine wpAnyH_done (by kernel_rfl) ?_ _
          show wpList _ _ _ _ _ _
          clear hHeld
          go_wp2_with fail
          refine (join_any 21 ⟨t.text.toArray⟩ p0 _ _ xl x10 (Qn q w.heap.size (w.heap.size + 1) w1.heap.size) _ (fun b hb => Qn.of (HQ.out b (by first | omega | (simp at hb; omega))) (by first | omega | (simp at hb; omega))) (HXl.out.keep (by repeat (first | with_reducible exact KeptQ.refl _ _ | with_reducible refine KeptQ.alloc ?_ _ | with_reducible refine KeptQ.drew ?_ | with_reducible refine KeptQ.setCell ?_ (by intro h; have h2 := Qn.no h; first | (dsimp only at h2 ⊢; omega) | (simp at h2 ⊢; omega) | omega) _ | with_reducible refine KeptQ.but ?_ (by assumption) (Qn.nor HQR.out)))) (HX10.out.keep (by repeat (first | with_reducible exact KeptQ.refl _ _ | with_reducible refine KeptQ.alloc ?_ _ | with_reducible refine KeptQ.drew ?_ | with_reducible refine KeptQ.setCell ?_ (by intro h; have h2 := Qn.no h; first | (dsimp only at h2 ⊢; omega) | (simp at h2 ⊢; omega) | omega) _ | with_reducible refine KeptQ.but ?_ (by assumption) (Qn.nor HQR.out))))).mono ?_
          rintro e w11 ⟨⟨v11, rfl, hx11⟩, hp11⟩
          obtain ⟨nn11, tx11, ox11, a11, ln11, cp11, rfl, htx11⟩ := hx11.form2
          have HX11 := Hid.intro hx11
          clear hx11 htx11
          have hb11 := But.of (R := R) hp11
          have l11 := hb11.size
          (try simp at l11)
          have HR11 : Hid (Box w11 (w.heap.size + 1) (.int .i64 0) (.string ⟨#[]⟩) (.string ⟨#[]⟩) (.int .i64 0) (.int .i64 0) (.slice none 0 0)) := Hid.intro (Box.but hb11 (by first | omega | (simp; done) | (simp; omega)) (by repeat (first | with_reducible exact HR10.out | with_reducible refine Box.drew ?_ | with_reducible refine Box.alloc _ ?_ | with_reducible refine Box.other (by first | (dsimp only; omega) | (simp; omega)) ?_)))
          have HL11 : Hid (Box w11 (w1.heap.size) (.int .i64 (xl.kind : Int)) (.string tx) (.string ox) (.int .i64 nn) (.int .i64 (xl.pl : Int)) (.slice a ln cp)) := Hid.intro (Box.but hb11 (by first | omega | (simp; done) | (simp; omega)) (by repeat (first | with_reducible exact HL10.out | with_reducible refine Box.drew ?_ | with_reducible refine Box.alloc _ ?_ | with_reducible refine Box.other (by first | (dsimp only; omega) | (simp; omega)) ?_)))
          clear HR10 HL10
          have HS11 : Hid (St Z R en w11 r10) := Hid.intro (St.to (HS10.out.below (by repeat (first | with_reducible exact Below.refl _ _ | with_reducible refine Below.alloc ?_ (by first | omega | (simp; done) | (simp; omega)) _ | with_reducible refine Below.drew ?_ | with_reducible refine Below.setCell ?_ (by first | (dsimp only; omega) | (simp; omega)) _ ))) hp11)
          clear hp11
          obtain ⟨y0, y1, y2, y3, y4, y5⟩ := HL11.out.cells
          obtain ⟨yf0, yf1, yf2, yf3, yf4, yf5⟩ := HL11.out.frees
          have hlen : tokLen R wr = (t :: us').length := HS.out.len
          go_wp2_with fail
          go_roundw
          case rel =>
            refine ⟨joinE 21 t.text p0 xl x10, nn11, tx11, ox11, a11, ln11, cp11, r10, g, by omega, Hid.intro (by repeat (first | with_reducible exact HR11.out | with_reducible refine Box.drew ?_ | with_reducible refine Box.alloc _ ?_ | with_reducible refine Box.other (by first | (dsimp only; omega) | (simp; omega)) ?_)), Hid.intro (Box.set HL11.out), Hid.intro (HS11.out.below (by repeat (first | with_reducible exact Below.refl _ _ | with_reducible refine Below.alloc ?_ (by first | omega | (simp; done) | (simp; omega)) _ | with_reducible refine Below.drew ?_ | with_reducible refine Below.setCell ?_ (by first | (dsimp only; omega) | (simp; omega)) _ ))), Hid.intro (HX11.out.keep (by repeat (first | with_reducible exact KeptQ.refl _ _ | with_reducible refine KeptQ.alloc ?_ _ | with_reducible refine KeptQ.drew ?_ | with_reducible refine KeptQ.setCell ?_ (by intro h; have h2 := Qn.no h; first | (dsimp only at h2 ⊢; omega) | (simp at h2 ⊢; omega) | omega) _ | with_reducible refine KeptQ.but ?_ (by assumption) (Qn.nor HQR.out)))), Hid.intro (by repeat (first | with_reducible exact But.refl _ _ | with_reducible refine But.alloc ?_ _ | with_reducible refine But.drew ?_ | with_reducible refine But.setCell ?_ (by first | (left; dsimp only; omega) | (left; simp; omega)) _ | with_reducible refine But.trans ?_ (by assumption) | with_reducible refine But.below ?_ (by assumption))), ?_⟩
            show thenO _ _ _ _ = O
            rw [← HI4.out, show runC en (P en g) (.call (.appL (place en us') x9) .ret) r9 = .ok x10 r10 from HP10.out.symm]
            exact congrArg _ run_tail.symm
          case measure =>
            refine Nat.lt_of_le_of_lt (Nat.le_of_eq (St.len (HS11.out.below (by repeat (first | with_reducible exact Below.refl _ _ | with_reducible refine Below.alloc ?_ (by first | omega | (simp; done) | (simp; omega)) _ | with_reducible refine Below.drew ?_ | with_reducible refine Below.setCell ?_ (by first | (dsimp only; omega) | (simp; omega)) _ ))))) ?_
            rw [hlen]; exact HLT.out
      have hsg : hd (fun t => isT [42] t || isT [47] t) us = false := by cases us with | nil => rfl | cons t r => simp only [hd] at c1 c2 ⊢; rw [c1, c2]; rfl
      have HI3 : Hid (runC en (P en f) (k xl) us = O) := Hid.intro (by rw [← HI2.out]; simp only [body, runC]; rw [if_neg (by rw [hsg]; decide)]; rfl)
      clear hsg c1 c2 HI2
      obtain ⟨y0, y1, y2, y3, y4, y5⟩ := HL7.out.cells
      obtain ⟨yf0, yf1, yf2, yf3, yf4, yf5⟩ := HL7.out.frees
      obtain ⟨z0, z1, z2, z3, z4, z5⟩ := HR7.out.cells
      obtain ⟨zf0, zf1, zf2, zf3, zf4, zf5⟩ := HR7.out.frees
      go_wp2
      refine bodyPost_ret (v := .agg #[.int .i64 (xl.kind : Int), .string tx, .string ox, .int .i64 nn, .int .i64 (xl.pl : Int), .slice a ln cp]) (by simp [results, Tryz.results181, go_sem, *]) rfl ⟨(by repeat (first | with_reducible exact But.refl _ _ | with_reducible refine But.alloc ?_ _ | with_reducible refine But.drew ?_ | with_reducible refine But.setCell ?_ (by first | (left; dsimp only; omega) | (left; simp; omega)) _ | with_reducible refine But.trans ?_ (by assumption) | with_reducible refine But.below ?_ (by assumption))), Or.inl ⟨_, xl, _, rfl, ((HXl.out.keep (by repeat (first | with_reducible exact KeptQ.refl _ _ | with_reducible refine KeptQ.alloc ?_ _ | with_reducible refine KeptQ.drew ?_ | with_reducible refine KeptQ.setCell ?_ (by intro h; have h2 := Qn.no h; first | (dsimp only at h2 ⊢; omega) | (simp at h2 ⊢; omega) | omega) _ | with_reducible refine KeptQ.but ?_ (by assumption) (Qn.nor HQR.out)))).imp (fun _ _ h => Qn.q h)), (HS7.out.below (by repeat (first | with_reducible exact Below.refl _ _ | with_reducible refine Below.alloc ?_ (by first | omega | (simp; done) | (simp; omega)) _ | with_reducible refine Below.drew ?_ | with_reducible refine Below.setCell ?_ (by first | (dsimp only; omega) | (simp; omega)) _ ))), HI3.out⟩⟩
end Go.Proofs.YtkljakeccfnakaaGreatDoor
