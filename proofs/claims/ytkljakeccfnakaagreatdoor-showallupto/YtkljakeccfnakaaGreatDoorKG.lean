/-
  The walk of a test.
-/
import Derived.Test.YtkljakeccfnakaaGreatDoorKB
namespace Go.Proofs.YtkljakeccfnakaaGreatDoor
open Go.RowKit

/-- A function that goes on behind a unit, to the end. -/
def GoesR (Z R en f : Nat) (F : Nat) (c : Nat → Ex → Cmd) : Prop :=
  ∀ (p0 : Nat) (v : Value) (x : Ex) (q : Nat → Prop) (ts : List Tok) (O : Out) (w : World), St Z R en w ts → (∀ b, w.heap.size ≤ b → q b) → ¬ q R → ExQ q w v x → O ≠ .out → runC en (P en f) (c p0 x) ts = O →
    Calls Tryz.prog F #[.pointer (some ⟨R, 0, none⟩), .int .i64 (p0 : Nat), v] w fun e w' => But R w w' ∧ ((∃ v x r, e = .returned v ∧ ExQ q w' v x ∧ St Z R en w' r ∧ O = .ok x r) ∨ (∃ c p : Nat, e = .panicked [{ v := .iface 73 (.agg #[.int .i64 c, .int .i64 p]), recovered := false }] ∧ Gone en O c p))
theorem run_unitK {en f : Nat} {k : Nat → Ex → Cmd} {ts : List Tok} : runC en (P en f) (unitK k) ts = thenO en f (k (place en ts)) (P en f .unit ts) := run_call

set_option maxHeartbeats 8000000 in
theorem test_goes {Z R en f : Nat} (KB : Begins Z R en f 150) (KS : Goes Z R en f 170 fun p x k => sumK p x k) : GoesR Z R en f 151 testC := by
  intro p0 v0 x0 q ts O w hw hq hqR hx0 hO hg
  have lz : Z ≤ w.heap.size := hw.size
  have lr : R < Z := hw.rz
  have HO := Hid.intro hO
  have HW := Hid.intro hw
  have HQ := Hid.intro hq
  have HQR := Hid.intro hqR
  obtain ⟨nn0, tx0, ox0, a0, ln0, cp0, rfl, htx0⟩ := hx0.form2
  have HX0 := Hid.intro hx0
  have HKB := Hid.intro KB
  have HKS := Hid.intro KS
  unfold testC at hg
  have HG0 := Hid.intro hg
  clear KB KS hw hO hg hx0 htx0 hq hqR
  have F0 := fld0; have F1 := fld1; have F2 := fld2; have F3 := fld3
  go_enter Tryz.func151, Tryz.ntmps151
  go_wp2_with fail
  refine (HKS.out p0 _ x0 (Qn q w.heap.size (w.heap.size + 1) (w.heap.size + 1)) _ ts _ _ (HW.out.below (by repeat (first | with_reducible exact Below.refl _ _ | with_reducible refine Below.alloc ?_ (by first | omega | (simp; done) | (simp; omega)) _ | with_reducible refine Below.drew ?_ | with_reducible refine Below.setCell ?_ (by first | (dsimp only; omega) | (simp; omega)) _ ))) (fun b hb => Qn.of (HQ.out b (by first | omega | (simp at hb; omega))) (by first | omega | (simp at hb; omega))) (Qn.nor HQR.out) ((HX0.out.imp (fun b h1 h2 => Qn.of h2 (by omega))).keep (by repeat (first | with_reducible exact KeptQ.refl _ _ | with_reducible refine KeptQ.alloc ?_ _ | with_reducible refine KeptQ.drew ?_ | with_reducible refine KeptQ.setCell ?_ (by intro h; have h2 := Qn.no h; first | (dsimp only at h2 ⊢; omega) | (simp at h2 ⊢; omega) | omega) _ | with_reducible refine KeptQ.but ?_ (by assumption) (Qn.nor HQR.out)))) HO.out HG0.out).mono ?_
  rintro e w1 ⟨hb1, ⟨v1, xl, r1, rfl, hx1, hs, hG⟩ | ⟨c, p, rfl, hG⟩⟩
  rotate_left
  · exact ⟨rfl, (by repeat (first | with_reducible exact But.refl _ _ | with_reducible refine But.alloc ?_ _ | with_reducible refine But.drew ?_ | with_reducible refine But.setCell ?_ (by first | (left; dsimp only; omega) | (left; simp; omega)) _ | with_reducible refine But.trans ?_ (by assumption) | with_reducible refine But.below ?_ (by assumption))), Or.inr ⟨c, p, rfl, hG⟩⟩
  obtain ⟨nn, tx, ox, a, ln, cp, rfl, htx1⟩ := hx1.form2
  have HXa := Hid.intro hx1
  have HS1 := Hid.intro hs
  have HG1 := Hid.intro hG
  clear hx1 htx1 hs hG HG0
  have l1 := hb1.size
  (try simp at l1)
  have HR1 : Hid (Box w1 (w.heap.size + 1) (.int .i64 0) (.string ⟨#[]⟩) (.string ⟨#[]⟩) (.int .i64 0) (.int .i64 0) (.slice none 0 0)) := Hid.intro (Box.but hb1 (by first | omega | (simp; done) | (simp; omega)) (Box.new (by simp)))
  have HXl : Hid (ExQ (Qn q w.heap.size (w.heap.size + 1) w1.heap.size) w1 (.agg #[.int .i64 (xl.kind : Int), .string tx, .string ox, .int .i64 nn, .int .i64 (xl.pl : Int), .slice a ln cp]) xl) := Hid.intro (HXa.out.imp (fun b h1 h2 => Qn.of (Qn.q h2) (by have := Qn.no h2; omega)))
  clear HXa
  go_wp2_with fail
  refine (may_step ⟨#[60]⟩ (by decide) _ (HS1.out.below (by repeat (first | with_reducible exact Below.refl _ _ | with_reducible refine Below.alloc ?_ (by first | omega | (simp; done) | (simp; omega)) _ | with_reducible refine Below.drew ?_ | with_reducible refine Below.setCell ?_ (by first | (dsimp only; omega) | (simp; omega)) _ ))) HG1.out).mono ?_
  rintro e w2 ⟨hb2, ⟨rfl, r2, hs, hG⟩ | ⟨rfl, hs, hG⟩⟩
  · have l2 := hb2.size
    (try simp at l2)
    have HL2 : Hid (Box w2 (w1.heap.size) (.int .i64 (xl.kind : Int)) (.string tx) (.string ox) (.int .i64 nn) (.int .i64 (xl.pl : Int)) (.slice a ln cp)) := Hid.intro (Box.but hb2 (by first | omega | (simp; done) | (simp; omega)) (Box.new rfl))
    have HR2 : Hid (Box w2 (w.heap.size + 1) (.int .i64 0) (.string ⟨#[]⟩) (.string ⟨#[]⟩) (.int .i64 0) (.int .i64 0) (.slice none 0 0)) := Hid.intro (Box.but hb2 (by first | omega | (simp; done) | (simp; omega)) (by repeat (first | with_reducible exact HR1.out | with_reducible refine Box.drew ?_ | with_reducible refine Box.alloc _ ?_ | with_reducible refine Box.other (by first | (dsimp only; omega) | (simp; omega)) ?_)))
    clear HR1
    have HS2 := Hid.intro hs
    have HG2 := Hid.intro hG
    clear hs hG
    have HI3 : Hid (thenO en f (fun u => sumK (place en r2) u fun r => .ret (joinE 22 [] p0 xl r)) (P en f .unit r2) = O) := Hid.intro (by rw [← HG2.out]; exact (run_unitK (k := fun q u => sumK q u fun r => .ret (joinE 22 [] p0 xl r))).symm)
    have HNE := Hid.intro (show P en f .unit r2 ≠ .out from then_out (f := f) (by rw [HI3.out]; exact HO.out))
    go_wp2_with fail
    refine wp_region_held_tail (S := fun w' => Box w' (w1.heap.size) (.int .i64 (xl.kind : Int)) (.string tx) (.string ox) (.int .i64 nn) (.int .i64 (xl.pl : Int)) (.slice a ln cp)) 8 (by kernel_rfl) (by kernel_rfl) (by repeat (first | with_reducible exact HL2.out | with_reducible refine Box.drew ?_ | with_reducible refine Box.alloc _ ?_ | with_reducible refine Box.other (by first | (dsimp only; omega) | (simp; omega)) ?_)) (fun hHeld => ?_)
    simp only [List.take_succ_cons, List.take_zero, List.drop_succ_cons, List.drop_zero]
    refine wpAnyH_take (i := 0) (v := .int .i64 (p0 : Nat)) rfl (by kernel_rfl) (by kernel_rfl) (by kernel_rfl) (fun _ _ _ h => h) (Or.inl ⟨by rfl, by intro w _; go_simp⟩) hHeld ?_
    refine wpAnyH_take (i := 1) (v := .agg #[.int .i64 (xl.kind : Int), .string tx, .string ox, .int .i64 nn, .int .i64 (xl.pl : Int), .slice a ln cp]) rfl (by kernel_rfl) (by kernel_rfl) (by kernel_rfl) (fun _ _ _ h => h) (Or.inl ⟨by rfl, by intro w hS; obtain ⟨y0, y1, y2, y3, y4, y5⟩ := Box.cells hS; go_simp⟩) hHeld ?_
    refine wpAnyH_take (i := 2) (v := .pointer (some ⟨R, 0, none⟩)) rfl (by kernel_rfl) (by kernel_rfl) (by kernel_rfl) (fun _ _ _ h => h) (Or.inl ⟨by rfl, by intro w _; go_simp⟩) hHeld ?_
    refine wpAnyH_take (i := 3) (v := .pointer (some ⟨R, 0, none⟩)) rfl (by kernel_rfl) (by kernel_rfl) (by kernel_rfl) (fun _ _ _ h => h) (Or.inl ⟨by rfl, by intro w _; go_simp⟩) hHeld ?_
    refine wpAnyH_ready (rs := [4]) (by kernel_rfl) (by simp) ?_
    refine AllReadyH.cons rfl (fun K hK => ?_) AllReadyH.nil
    go_simp
    refine (HKB.out r2 _ (HS2.out.below (by repeat (first | with_reducible exact Below.refl _ _ | with_reducible refine Below.alloc ?_ (by first | omega | (simp; done) | (simp; omega)) _ | with_reducible refine Below.drew ?_ | with_reducible refine Below.setCell ?_ (by first | (dsimp only; omega) | (simp; omega)) _ ))) HNE.out).mono ?_
    rintro e w3 ⟨hb3, ⟨v3, x3, r3, rfl, hx3, hs, hP⟩ | ⟨c, p, rfl, hG⟩⟩
    rotate_left
    · exact ⟨rfl, (by repeat (first | with_reducible exact But.refl _ _ | with_reducible refine But.alloc ?_ _ | with_reducible refine But.drew ?_ | with_reducible refine But.setCell ?_ (by first | (left; dsimp only; omega) | (left; simp; omega)) _ | with_reducible refine But.trans ?_ (by assumption) | with_reducible refine But.below ?_ (by assumption))), Or.inr ⟨c, p, rfl, by rw [← HI3.out]; exact gone_then hG⟩⟩
    obtain ⟨nn3, tx3, ox3, a3, ln3, cp3, rfl, htx3⟩ := hx3.form2
    have HX3 := Hid.intro hx3
    have HS3 := Hid.intro hs
    have HP3 := Hid.intro hP
    clear hx3 hs htx3 hP
    have l3 := hb3.size
    (try simp at l3)
    have HR3 : Hid (Box w3 (w.heap.size + 1) (.int .i64 0) (.string ⟨#[]⟩) (.string ⟨#[]⟩) (.int .i64 0) (.int .i64 0) (.slice none 0 0)) := Hid.intro (Box.but hb3 (by first | omega | (simp; done) | (simp; omega)) (by repeat (first | with_reducible exact HR2.out | with_reducible refine Box.drew ?_ | with_reducible refine Box.alloc _ ?_ | with_reducible refine Box.other (by first | (dsimp only; omega) | (simp; omega)) ?_)))
    have HL3 : Hid (Box w3 (w1.heap.size) (.int .i64 (xl.kind : Int)) (.string tx) (.string ox) (.int .i64 nn) (.int .i64 (xl.pl : Int)) (.slice a ln cp)) := Hid.intro (Box.but hb3 (by first | omega | (simp; done) | (simp; omega)) (by repeat (first | with_reducible exact HL2.out | with_reducible refine Box.drew ?_ | with_reducible refine Box.alloc _ ?_ | with_reducible refine Box.other (by first | (dsimp only; omega) | (simp; omega)) ?_)))
    clear HR2 HL2
    refine hK.out _ _ (by repeat (first | with_reducible exact HL3.out | with_reducible refine Box.drew ?_ | with_reducible refine Box.alloc _ ?_ | with_reducible refine Box.other (by first | (dsimp only; omega) | (simp; omega)) ?_)) (fun hHeld => ?_)
    clear hK K
    have HI4 : Hid (runC en (P en f) (sumK (place en r2) x3 fun r => .ret (joinE 22 [] p0 xl r)) r3 = O) := (by show _ = _; rw [← HI3.out, HP3.out]; rfl)
    clear HI3 HP3 HNE
    refine wpAnyH_take (i := 5) (v := .int .i64 (place en r2 : Nat)) rfl (by kernel_rfl) (by kernel_rfl) (by kernel_rfl) (fun _ _ _ h => h) (Or.inl ⟨by rfl, by intro w _; go_simp⟩) hHeld ?_
    refine wpAnyH_take (i := 6) (v := .agg #[.int .i64 (x3.kind : Int), .string tx3, .string ox3, .int .i64 nn3, .int .i64 (x3.pl : Int), .slice a3 ln3 cp3]) rfl (by kernel_rfl) (by kernel_rfl) (by kernel_rfl) (fun _ _ _ h => h) (Or.inl ⟨by rfl, by intro w _; go_simp⟩) hHeld ?_
    refine wpAnyH_ready (rs := [7]) (by kernel_rfl) (by simp) ?_
    refine AllReadyH.cons rfl (fun K hK => ?_) AllReadyH.nil
    go_simp
    refine (HKS.out (place en r2) _ x3 (Qn q w.heap.size (w.heap.size + 1) w1.heap.size) _ r3 _ _ (HS3.out.below (by repeat (first | with_reducible exact Below.refl _ _ | with_reducible refine Below.alloc ?_ (by first | omega | (simp; done) | (simp; omega)) _ | with_reducible refine Below.drew ?_ | with_reducible refine Below.setCell ?_ (by first | (dsimp only; omega) | (simp; omega)) _ ))) (fun b hb => Qn.of (HQ.out b (by first | omega | (simp at hb; omega))) (by first | omega | (simp at hb; omega))) (Qn.nor HQR.out) ((HX3.out.keep (by repeat (first | with_reducible exact Kept.refl _ _ | with_reducible refine Kept.alloc ?_ _ | with_reducible refine Kept.drew ?_ | with_reducible refine Kept.setCell ?_ (by first | (left; dsimp only; omega) | (right; dsimp only; omega) | (left; simp; omega) | (right; simp; omega)) _ | with_reducible refine Kept.but ?_ (by assumption) (by first | omega | (simp; omega)) | with_reducible refine Kept.below ?_ (by assumption)))).toQ (fun b hb _ => Qn.of (HQ.out b (by first | omega | (simp at hb; omega))) (by first | omega | (simp at hb; omega)))) HO.out HI4.out).mono ?_
    rintro e w4 ⟨hb4, ⟨v4, x4, r4, rfl, hx4, hs, hP⟩ | ⟨c, p, rfl, hG⟩⟩
    rotate_left
    · exact ⟨rfl, (by repeat (first | with_reducible exact But.refl _ _ | with_reducible refine But.alloc ?_ _ | with_reducible refine But.drew ?_ | with_reducible refine But.setCell ?_ (by first | (left; dsimp only; omega) | (left; simp; omega)) _ | with_reducible refine But.trans ?_ (by assumption) | with_reducible refine But.below ?_ (by assumption))), Or.inr ⟨c, p, rfl, hG⟩⟩
    obtain ⟨nn4, tx4, ox4, a4, ln4, cp4, rfl, htx4⟩ := hx4.form2
    have HX4 := Hid.intro hx4
    have HS4 := Hid.intro hs
    have HP4 := Hid.intro hP
    clear hx4 hs htx4 hP
    have l4 := hb4.size
    (try simp at l4)
    have HR4 : Hid (Box w4 (w.heap.size + 1) (.int .i64 0) (.string ⟨#[]⟩) (.string ⟨#[]⟩) (.int .i64 0) (.int .i64 0) (.slice none 0 0)) := Hid.intro (Box.but hb4 (by first | omega | (simp; done) | (simp; omega)) (by repeat (first | with_reducible exact HR3.out | with_reducible refine Box.drew ?_ | with_reducible refine Box.alloc _ ?_ | with_reducible refine Box.other (by first | (dsimp only; omega) | (simp; omega)) ?_)))
    have HL4 : Hid (Box w4 (w1.heap.size) (.int .i64 (xl.kind : Int)) (.string tx) (.string ox) (.int .i64 nn) (.int .i64 (xl.pl : Int)) (.slice a ln cp)) := Hid.intro (Box.but hb4 (by first | omega | (simp; done) | (simp; omega)) (by repeat (first | with_reducible exact HL3.out | with_reducible refine Box.drew ?_ | with_reducible refine Box.alloc _ ?_ | with_reducible refine Box.other (by first | (dsimp only; omega) | (simp; omega)) ?_)))
    clear HR3 HL3
    refine hK.out _ _ (by repeat (first | with_reducible exact HL4.out | with_reducible refine Box.drew ?_ | with_reducible refine Box.alloc _ ?_ | with_reducible refine Box.other (by first | (dsimp only; omega) | (simp; omega)) ?_)) (fun hHeld => ?_)
    clear hK K
    refine wpAnyH_done (by kernel_rfl) ?_ _
    show wpList _ _ _ _ _ _
    clear hHeld
    go_wp2_with fail
    refine (join_any 22 ⟨#[]⟩ p0 _ _ xl x4 (Qn q w.heap.size (w.heap.size + 1) w1.heap.size) _ (fun b hb => Qn.of (HQ.out b (by first | omega | (simp at hb; omega))) (by first | omega | (simp at hb; omega))) (HXl.out.keep (by repeat (first | with_reducible exact KeptQ.refl _ _ | with_reducible refine KeptQ.alloc ?_ _ | with_reducible refine KeptQ.drew ?_ | with_reducible refine KeptQ.setCell ?_ (by intro h; have h2 := Qn.no h; first | (dsimp only at h2 ⊢; omega) | (simp at h2 ⊢; omega) | omega) _ | with_reducible refine KeptQ.but ?_ (by assumption) (Qn.nor HQR.out)))) (HX4.out.keep (by repeat (first | with_reducible exact KeptQ.refl _ _ | with_reducible refine KeptQ.alloc ?_ _ | with_reducible refine KeptQ.drew ?_ | with_reducible refine KeptQ.setCell ?_ (by intro h; have h2 := Qn.no h; first | (dsimp only at h2 ⊢; omega) | (simp at h2 ⊢; omega) | omega) _ | with_reducible refine KeptQ.but ?_ (by assumption) (Qn.nor HQR.out))))).mono ?_
    rintro e w5 ⟨⟨v5, rfl, hx5⟩, hp5⟩
    obtain ⟨nn5, tx5, ox5, a5, ln5, cp5, rfl, htx5⟩ := hx5.form2
    have HX5 := Hid.intro hx5
    clear hx5 htx5
    have hb5 := But.of (R := R) hp5
    have l5 := hb5.size
    (try simp at l5)
    have HR5 : Hid (Box w5 (w.heap.size + 1) (.int .i64 0) (.string ⟨#[]⟩) (.string ⟨#[]⟩) (.int .i64 0) (.int .i64 0) (.slice none 0 0)) := Hid.intro (Box.but hb5 (by first | omega | (simp; done) | (simp; omega)) (by repeat (first | with_reducible exact HR4.out | with_reducible refine Box.drew ?_ | with_reducible refine Box.alloc _ ?_ | with_reducible refine Box.other (by first | (dsimp only; omega) | (simp; omega)) ?_)))
    have HL5 : Hid (Box w5 (w1.heap.size) (.int .i64 (xl.kind : Int)) (.string tx) (.string ox) (.int .i64 nn) (.int .i64 (xl.pl : Int)) (.slice a ln cp)) := Hid.intro (Box.but hb5 (by first | omega | (simp; done) | (simp; omega)) (by repeat (first | with_reducible exact HL4.out | with_reducible refine Box.drew ?_ | with_reducible refine Box.alloc _ ?_ | with_reducible refine Box.other (by first | (dsimp only; omega) | (simp; omega)) ?_)))
    clear HR4 HL4
    have HS5 : Hid (St Z R en w5 r4) := Hid.intro (St.to (HS4.out.below (by repeat (first | with_reducible exact Below.refl _ _ | with_reducible refine Below.alloc ?_ (by first | omega | (simp; done) | (simp; omega)) _ | with_reducible refine Below.drew ?_ | with_reducible refine Below.setCell ?_ (by first | (dsimp only; omega) | (simp; omega)) _ ))) hp5)
    clear hp5
    obtain ⟨z0, z1, z2, z3, z4, z5⟩ := HR5.out.cells
    obtain ⟨zf0, zf1, zf2, zf3, zf4, zf5⟩ := HR5.out.frees
    go_wp2
    refine bodyPost_ret (v := .agg #[.int .i64 ((joinE 22 [] p0 xl x4).kind : Int), .string tx5, .string ox5, .int .i64 nn5, .int .i64 ((joinE 22 [] p0 xl x4).pl : Int), .slice a5 ln5 cp5]) (by simp [results, Tryz.results151, go_sem, *]) rfl ⟨(by repeat (first | with_reducible exact But.refl _ _ | with_reducible refine But.alloc ?_ _ | with_reducible refine But.drew ?_ | with_reducible refine But.setCell ?_ (by first | (left; dsimp only; omega) | (left; simp; omega)) _ | with_reducible refine But.trans ?_ (by assumption) | with_reducible refine But.below ?_ (by assumption))), Or.inl ⟨_, _, _, rfl, ((HX5.out.keep (by repeat (first | with_reducible exact KeptQ.refl _ _ | with_reducible refine KeptQ.alloc ?_ _ | with_reducible refine KeptQ.drew ?_ | with_reducible refine KeptQ.setCell ?_ (by intro h; have h2 := Qn.no h; first | (dsimp only at h2 ⊢; omega) | (simp at h2 ⊢; omega) | omega) _ | with_reducible refine KeptQ.but ?_ (by assumption) (Qn.nor HQR.out)))).imp (fun _ _ h => Qn.q h)), (HS5.out.below (by repeat (first | with_reducible exact Below.refl _ _ | with_reducible refine Below.alloc ?_ (by first | omega | (simp; done) | (simp; omega)) _ | with_reducible refine Below.drew ?_ | with_reducible refine Below.setCell ?_ (by first | (dsimp only; omega) | (simp; omega)) _ ))), HP4.out.symm⟩⟩
  have l2 := hb2.size
  (try simp at l2)
  have HL2 : Hid (Box w2 (w1.heap.size) (.int .i64 (xl.kind : Int)) (.string tx) (.string ox) (.int .i64 nn) (.int .i64 (xl.pl : Int)) (.slice a ln cp)) := Hid.intro (Box.but hb2 (by first | omega | (simp; done) | (simp; omega)) (Box.new rfl))
  have HR2 : Hid (Box w2 (w.heap.size + 1) (.int .i64 0) (.string ⟨#[]⟩) (.string ⟨#[]⟩) (.int .i64 0) (.int .i64 0) (.slice none 0 0)) := Hid.intro (Box.but hb2 (by first | omega | (simp; done) | (simp; omega)) (by repeat (first | with_reducible exact HR1.out | with_reducible refine Box.drew ?_ | with_reducible refine Box.alloc _ ?_ | with_reducible refine Box.other (by first | (dsimp only; omega) | (simp; omega)) ?_)))
  clear HR1
  have HS2 := Hid.intro hs
  have HG2 := Hid.intro hG
  clear hs hG
  go_wp2_with fail
  refine (may_step ⟨#[61]⟩ (by decide) _ (HS2.out.below (by repeat (first | with_reducible exact Below.refl _ _ | with_reducible refine Below.alloc ?_ (by first | omega | (simp; done) | (simp; omega)) _ | with_reducible refine Below.drew ?_ | with_reducible refine Below.setCell ?_ (by first | (dsimp only; omega) | (simp; omega)) _ ))) HG2.out).mono ?_
  rintro e w6 ⟨hb6, ⟨rfl, r6, hs, hG⟩ | ⟨rfl, hs, hG⟩⟩
  · have l6 := hb6.size
    (try simp at l6)
    have HR6 : Hid (Box w6 (w.heap.size + 1) (.int .i64 0) (.string ⟨#[]⟩) (.string ⟨#[]⟩) (.int .i64 0) (.int .i64 0) (.slice none 0 0)) := Hid.intro (Box.but hb6 (by first | omega | (simp; done) | (simp; omega)) (by repeat (first | with_reducible exact HR2.out | with_reducible refine Box.drew ?_ | with_reducible refine Box.alloc _ ?_ | with_reducible refine Box.other (by first | (dsimp only; omega) | (simp; omega)) ?_)))
    have HL6 : Hid (Box w6 (w1.heap.size) (.int .i64 (xl.kind : Int)) (.string tx) (.string ox) (.int .i64 nn) (.int .i64 (xl.pl : Int)) (.slice a ln cp)) := Hid.intro (Box.but hb6 (by first | omega | (simp; done) | (simp; omega)) (by repeat (first | with_reducible exact HL2.out | with_reducible refine Box.drew ?_ | with_reducible refine Box.alloc _ ?_ | with_reducible refine Box.other (by first | (dsimp only; omega) | (simp; omega)) ?_)))
    clear HR2 HL2
    have HS6 := Hid.intro hs
    have HG6 := Hid.intro hG
    clear hs hG
    have HI3 : Hid (thenO en f (fun u => sumK (place en r6) u fun r => .ret (joinE 23 [] p0 xl r)) (P en f .unit r6) = O) := Hid.intro (by rw [← HG6.out]; exact (run_unitK (k := fun q u => sumK q u fun r => .ret (joinE 23 [] p0 xl r))).symm)
    have HNE := Hid.intro (show P en f .unit r6 ≠ .out from then_out (f := f) (by rw [HI3.out]; exact HO.out))
    go_wp2_with fail
    refine wp_region_held_tail (S := fun w' => Box w' (w1.heap.size) (.int .i64 (xl.kind : Int)) (.string tx) (.string ox) (.int .i64 nn) (.int .i64 (xl.pl : Int)) (.slice a ln cp)) 8 (by kernel_rfl) (by kernel_rfl) (by repeat (first | with_reducible exact HL6.out | with_reducible refine Box.drew ?_ | with_reducible refine Box.alloc _ ?_ | with_reducible refine Box.other (by first | (dsimp only; omega) | (simp; omega)) ?_)) (fun hHeld => ?_)
    simp only [List.take_succ_cons, List.take_zero, List.drop_succ_cons, List.drop_zero]
    refine wpAnyH_take (i := 0) (v := .int .i64 (p0 : Nat)) rfl (by kernel_rfl) (by kernel_rfl) (by kernel_rfl) (fun _ _ _ h => h) (Or.inl ⟨by rfl, by intro w _; go_simp⟩) hHeld ?_
    refine wpAnyH_take (i := 1) (v := .agg #[.int .i64 (xl.kind : Int), .string tx, .string ox, .int .i64 nn, .int .i64 (xl.pl : Int), .slice a ln cp]) rfl (by kernel_rfl) (by kernel_rfl) (by kernel_rfl) (fun _ _ _ h => h) (Or.inl ⟨by rfl, by intro w hS; obtain ⟨y0, y1, y2, y3, y4, y5⟩ := Box.cells hS; go_simp⟩) hHeld ?_
    refine wpAnyH_take (i := 2) (v := .pointer (some ⟨R, 0, none⟩)) rfl (by kernel_rfl) (by kernel_rfl) (by kernel_rfl) (fun _ _ _ h => h) (Or.inl ⟨by rfl, by intro w _; go_simp⟩) hHeld ?_
    refine wpAnyH_take (i := 3) (v := .pointer (some ⟨R, 0, none⟩)) rfl (by kernel_rfl) (by kernel_rfl) (by kernel_rfl) (fun _ _ _ h => h) (Or.inl ⟨by rfl, by intro w _; go_simp⟩) hHeld ?_
    refine wpAnyH_ready (rs := [4]) (by kernel_rfl) (by simp) ?_
    refine AllReadyH.cons rfl (fun K hK => ?_) AllReadyH.nil
    go_simp
    refine (HKB.out r6 _ (HS6.out.below (by repeat (first | with_reducible exact Below.refl _ _ | with_reducible refine Below.alloc ?_ (by first | omega | (simp; done) | (simp; omega)) _ | with_reducible refine Below.drew ?_ | with_reducible refine Below.setCell ?_ (by first | (dsimp only; omega) | (simp; omega)) _ ))) HNE.out).mono ?_
    rintro e w7 ⟨hb7, ⟨v7, x7, r7, rfl, hx7, hs, hP⟩ | ⟨c, p, rfl, hG⟩⟩
    rotate_left
    · exact ⟨rfl, (by repeat (first | with_reducible exact But.refl _ _ | with_reducible refine But.alloc ?_ _ | with_reducible refine But.drew ?_ | with_reducible refine But.setCell ?_ (by first | (left; dsimp only; omega) | (left; simp; omega)) _ | with_reducible refine But.trans ?_ (by assumption) | with_reducible refine But.below ?_ (by assumption))), Or.inr ⟨c, p, rfl, by rw [← HI3.out]; exact gone_then hG⟩⟩
    obtain ⟨nn7, tx7, ox7, a7, ln7, cp7, rfl, htx7⟩ := hx7.form2
    have HX7 := Hid.intro hx7
    have HS7 := Hid.intro hs
    have HP7 := Hid.intro hP
    clear hx7 hs htx7 hP
    have l7 := hb7.size
    (try simp at l7)
    have HR7 : Hid (Box w7 (w.heap.size + 1) (.int .i64 0) (.string ⟨#[]⟩) (.string ⟨#[]⟩) (.int .i64 0) (.int .i64 0) (.slice none 0 0)) := Hid.intro (Box.but hb7 (by first | omega | (simp; done) | (simp; omega)) (by repeat (first | with_reducible exact HR6.out | with_reducible refine Box.drew ?_ | with_reducible refine Box.alloc _ ?_ | with_reducible refine Box.other (by first | (dsimp only; omega) | (simp; omega)) ?_)))
    have HL7 : Hid (Box w7 (w1.heap.size) (.int .i64 (xl.kind : Int)) (.string tx) (.string ox) (.int .i64 nn) (.int .i64 (xl.pl : Int)) (.slice a ln cp)) := Hid.intro (Box.but hb7 (by first | omega | (simp; done) | (simp; omega)) (by repeat (first | with_reducible exact HL6.out | with_reducible refine Box.drew ?_ | with_reducible refine Box.alloc _ ?_ | with_reducible refine Box.other (by first | (dsimp only; omega) | (simp; omega)) ?_)))
    clear HR6 HL6
    refine hK.out _ _ (by repeat (first | with_reducible exact HL7.out | with_reducible refine Box.drew ?_ | with_reducible refine Box.alloc _ ?_ | with_reducible refine Box.other (by first | (dsimp only; omega) | (simp; omega)) ?_)) (fun hHeld => ?_)
    clear hK K
    have HI4 : Hid (runC en (P en f) (sumK (place en r6) x7 fun r => .ret (joinE 23 [] p0 xl r)) r7 = O) := (by show _ = _; rw [← HI3.out, HP7.out]; rfl)
    clear HI3 HP7 HNE
    refine wpAnyH_take (i := 5) (v := .int .i64 (place en r6 : Nat)) rfl (by kernel_rfl) (by kernel_rfl) (by kernel_rfl) (fun _ _ _ h => h) (Or.inl ⟨by rfl, by intro w _; go_simp⟩) hHeld ?_
    refine wpAnyH_take (i := 6) (v := .agg #[.int .i64 (x7.kind : Int), .string tx7, .string ox7, .int .i64 nn7, .int .i64 (x7.pl : Int), .slice a7 ln7 cp7]) rfl (by kernel_rfl) (by kernel_rfl) (by kernel_rfl) (fun _ _ _ h => h) (Or.inl ⟨by rfl, by intro w _; go_simp⟩) hHeld ?_
    refine wpAnyH_ready (rs := [7]) (by kernel_rfl) (by simp) ?_
    refine AllReadyH.cons rfl (fun K hK => ?_) AllReadyH.nil
    go_simp
    refine (HKS.out (place en r6) _ x7 (Qn q w.heap.size (w.heap.size + 1) w1.heap.size) _ r7 _ _ (HS7.out.below (by repeat (first | with_reducible exact Below.refl _ _ | with_reducible refine Below.alloc ?_ (by first | omega | (simp; done) | (simp; omega)) _ | with_reducible refine Below.drew ?_ | with_reducible refine Below.setCell ?_ (by first | (dsimp only; omega) | (simp; omega)) _ ))) (fun b hb => Qn.of (HQ.out b (by first | omega | (simp at hb; omega))) (by first | omega | (simp at hb; omega))) (Qn.nor HQR.out) ((HX7.out.keep (by repeat (first | with_reducible exact Kept.refl _ _ | with_reducible refine Kept.alloc ?_ _ | with_reducible refine Kept.drew ?_ | with_reducible refine Kept.setCell ?_ (by first | (left; dsimp only; omega) | (right; dsimp only; omega) | (left; simp; omega) | (right; simp; omega)) _ | with_reducible refine Kept.but ?_ (by assumption) (by first | omega | (simp; omega)) | with_reducible refine Kept.below ?_ (by assumption)))).toQ (fun b hb _ => Qn.of (HQ.out b (by first | omega | (simp at hb; omega))) (by first | omega | (simp at hb; omega)))) HO.out HI4.out).mono ?_
    rintro e w8 ⟨hb8, ⟨v8, x8, r8, rfl, hx8, hs, hP⟩ | ⟨c, p, rfl, hG⟩⟩
    rotate_left
    · exact ⟨rfl, (by repeat (first | with_reducible exact But.refl _ _ | with_reducible refine But.alloc ?_ _ | with_reducible refine But.drew ?_ | with_reducible refine But.setCell ?_ (by first | (left; dsimp only; omega) | (left; simp; omega)) _ | with_reducible refine But.trans ?_ (by assumption) | with_reducible refine But.below ?_ (by assumption))), Or.inr ⟨c, p, rfl, hG⟩⟩
    obtain ⟨nn8, tx8, ox8, a8, ln8, cp8, rfl, htx8⟩ := hx8.form2
    have HX8 := Hid.intro hx8
    have HS8 := Hid.intro hs
    have HP8 := Hid.intro hP
    clear hx8 hs htx8 hP
    have l8 := hb8.size
    (try simp at l8)
    have HR8 : Hid (Box w8 (w.heap.size + 1) (.int .i64 0) (.string ⟨#[]⟩) (.string ⟨#[]⟩) (.int .i64 0) (.int .i64 0) (.slice none 0 0)) := Hid.intro (Box.but hb8 (by first | omega | (simp; done) | (simp; omega)) (by repeat (first | with_reducible exact HR7.out | with_reducible refine Box.drew ?_ | with_reducible refine Box.alloc _ ?_ | with_reducible refine Box.other (by first | (dsimp only; omega) | (simp; omega)) ?_)))
    have HL8 : Hid (Box w8 (w1.heap.size) (.int .i64 (xl.kind : Int)) (.string tx) (.string ox) (.int .i64 nn) (.int .i64 (xl.pl : Int)) (.slice a ln cp)) := Hid.intro (Box.but hb8 (by first | omega | (simp; done) | (simp; omega)) (by repeat (first | with_reducible exact HL7.out | with_reducible refine Box.drew ?_ | with_reducible refine Box.alloc _ ?_ | with_reducible refine Box.other (by first | (dsimp only; omega) | (simp; omega)) ?_)))
    clear HR7 HL7
    refine hK.out _ _ (by repeat (first | with_reducible exact HL8.out | with_reducible refine Box.drew ?_ | with_reducible refine Box.alloc _ ?_ | with_reducible refine Box.other (by first | (dsimp only; omega) | (simp; omega)) ?_)) (fun hHeld => ?_)
    clear hK K
    refine wpAnyH_done (by kernel_rfl) ?_ _
    show wpList _ _ _ _ _ _
    clear hHeld
    go_wp2_with fail
    refine (join_any 23 ⟨#[]⟩ p0 _ _ xl x8 (Qn q w.heap.size (w.heap.size + 1) w1.heap.size) _ (fun b hb => Qn.of (HQ.out b (by first | omega | (simp at hb; omega))) (by first | omega | (simp at hb; omega))) (HXl.out.keep (by repeat (first | with_reducible exact KeptQ.refl _ _ | with_reducible refine KeptQ.alloc ?_ _ | with_reducible refine KeptQ.drew ?_ | with_reducible refine KeptQ.setCell ?_ (by intro h; have h2 := Qn.no h; first | (dsimp only at h2 ⊢; omega) | (simp at h2 ⊢; omega) | omega) _ | with_reducible refine KeptQ.but ?_ (by assumption) (Qn.nor HQR.out)))) (HX8.out.keep (by repeat (first | with_reducible exact KeptQ.refl _ _ | with_reducible refine KeptQ.alloc ?_ _ | with_reducible refine KeptQ.drew ?_ | with_reducible refine KeptQ.setCell ?_ (by intro h; have h2 := Qn.no h; first | (dsimp only at h2 ⊢; omega) | (simp at h2 ⊢; omega) | omega) _ | with_reducible refine KeptQ.but ?_ (by assumption) (Qn.nor HQR.out))))).mono ?_
    rintro e w9 ⟨⟨v9, rfl, hx9⟩, hp9⟩
    obtain ⟨nn9, tx9, ox9, a9, ln9, cp9, rfl, htx9⟩ := hx9.form2
    have HX9 := Hid.intro hx9
    clear hx9 htx9
    have hb9 := But.of (R := R) hp9
    have l9 := hb9.size
    (try simp at l9)
    have HR9 : Hid (Box w9 (w.heap.size + 1) (.int .i64 0) (.string ⟨#[]⟩) (.string ⟨#[]⟩) (.int .i64 0) (.int .i64 0) (.slice none 0 0)) := Hid.intro (Box.but hb9 (by first | omega | (simp; done) | (simp; omega)) (by repeat (first | with_reducible exact HR8.out | with_reducible refine Box.drew ?_ | with_reducible refine Box.alloc _ ?_ | with_reducible refine Box.other (by first | (dsimp only; omega) | (simp; omega)) ?_)))
    have HL9 : Hid (Box w9 (w1.heap.size) (.int .i64 (xl.kind : Int)) (.string tx) (.string ox) (.int .i64 nn) (.int .i64 (xl.pl : Int)) (.slice a ln cp)) := Hid.intro (Box.but hb9 (by first | omega | (simp; done) | (simp; omega)) (by repeat (first | with_reducible exact HL8.out | with_reducible refine Box.drew ?_ | with_reducible refine Box.alloc _ ?_ | with_reducible refine Box.other (by first | (dsimp only; omega) | (simp; omega)) ?_)))
    clear HR8 HL8
    have HS9 : Hid (St Z R en w9 r8) := Hid.intro (St.to (HS8.out.below (by repeat (first | with_reducible exact Below.refl _ _ | with_reducible refine Below.alloc ?_ (by first | omega | (simp; done) | (simp; omega)) _ | with_reducible refine Below.drew ?_ | with_reducible refine Below.setCell ?_ (by first | (dsimp only; omega) | (simp; omega)) _ ))) hp9)
    clear hp9
    obtain ⟨z0, z1, z2, z3, z4, z5⟩ := HR9.out.cells
    obtain ⟨zf0, zf1, zf2, zf3, zf4, zf5⟩ := HR9.out.frees
    go_wp2
    refine bodyPost_ret (v := .agg #[.int .i64 ((joinE 23 [] p0 xl x8).kind : Int), .string tx9, .string ox9, .int .i64 nn9, .int .i64 ((joinE 23 [] p0 xl x8).pl : Int), .slice a9 ln9 cp9]) (by simp [results, Tryz.results151, go_sem, *]) rfl ⟨(by repeat (first | with_reducible exact But.refl _ _ | with_reducible refine But.alloc ?_ _ | with_reducible refine But.drew ?_ | with_reducible refine But.setCell ?_ (by first | (left; dsimp only; omega) | (left; simp; omega)) _ | with_reducible refine But.trans ?_ (by assumption) | with_reducible refine But.below ?_ (by assumption))), Or.inl ⟨_, _, _, rfl, ((HX9.out.keep (by repeat (first | with_reducible exact KeptQ.refl _ _ | with_reducible refine KeptQ.alloc ?_ _ | with_reducible refine KeptQ.drew ?_ | with_reducible refine KeptQ.setCell ?_ (by intro h; have h2 := Qn.no h; first | (dsimp only at h2 ⊢; omega) | (simp at h2 ⊢; omega) | omega) _ | with_reducible refine KeptQ.but ?_ (by assumption) (Qn.nor HQR.out)))).imp (fun _ _ h => Qn.q h)), (HS9.out.below (by repeat (first | with_reducible exact Below.refl _ _ | with_reducible refine Below.alloc ?_ (by first | omega | (simp; done) | (simp; omega)) _ | with_reducible refine Below.drew ?_ | with_reducible refine Below.setCell ?_ (by first | (dsimp only; omega) | (simp; omega)) _ ))), HP8.out.symm⟩⟩
  have l6 := hb6.size
  (try simp at l6)
  have HR6 : Hid (Box w6 (w.heap.size + 1) (.int .i64 0) (.string ⟨#[]⟩) (.string ⟨#[]⟩) (.int .i64 0) (.int .i64 0) (.slice none 0 0)) := Hid.intro (Box.but hb6 (by first | omega | (simp; done) | (simp; omega)) (by repeat (first | with_reducible exact HR2.out | with_reducible refine Box.drew ?_ | with_reducible refine Box.alloc _ ?_ | with_reducible refine Box.other (by first | (dsimp only; omega) | (simp; omega)) ?_)))
  have HL6 : Hid (Box w6 (w1.heap.size) (.int .i64 (xl.kind : Int)) (.string tx) (.string ox) (.int .i64 nn) (.int .i64 (xl.pl : Int)) (.slice a ln cp)) := Hid.intro (Box.but hb6 (by first | omega | (simp; done) | (simp; omega)) (by repeat (first | with_reducible exact HL2.out | with_reducible refine Box.drew ?_ | with_reducible refine Box.alloc _ ?_ | with_reducible refine Box.other (by first | (dsimp only; omega) | (simp; omega)) ?_)))
  clear HR2 HL2
  have HS6 := Hid.intro hs
  have HG6 := Hid.intro hG
  clear hs hG
  obtain ⟨y0, y1, y2, y3, y4, y5⟩ := HL6.out.cells
  obtain ⟨yf0, yf1, yf2, yf3, yf4, yf5⟩ := HL6.out.frees
  obtain ⟨z0, z1, z2, z3, z4, z5⟩ := HR6.out.cells
  obtain ⟨zf0, zf1, zf2, zf3, zf4, zf5⟩ := HR6.out.frees
  go_wp2
  refine bodyPost_ret (v := .agg #[.int .i64 (xl.kind : Int), .string tx, .string ox, .int .i64 nn, .int .i64 (xl.pl : Int), .slice a ln cp]) (by simp [results, Tryz.results151, go_sem, *]) rfl ⟨(by repeat (first | with_reducible exact But.refl _ _ | with_reducible refine But.alloc ?_ _ | with_reducible refine But.drew ?_ | with_reducible refine But.setCell ?_ (by first | (left; dsimp only; omega) | (left; simp; omega)) _ | with_reducible refine But.trans ?_ (by assumption) | with_reducible refine But.below ?_ (by assumption))), Or.inl ⟨_, xl, _, rfl, ((HXl.out.keep (by repeat (first | with_reducible exact KeptQ.refl _ _ | with_reducible refine KeptQ.alloc ?_ _ | with_reducible refine KeptQ.drew ?_ | with_reducible refine KeptQ.setCell ?_ (by intro h; have h2 := Qn.no h; first | (dsimp only at h2 ⊢; omega) | (simp at h2 ⊢; omega) | omega) _ | with_reducible refine KeptQ.but ?_ (by assumption) (Qn.nor HQR.out)))).imp (fun _ _ h => Qn.q h)), (HS6.out.below (by repeat (first | with_reducible exact Below.refl _ _ | with_reducible refine Below.alloc ?_ (by first | omega | (simp; done) | (simp; omega)) _ | with_reducible refine Below.drew ?_ | with_reducible refine Below.setCell ?_ (by first | (dsimp only; omega) | (simp; omega)) _ ))), HG6.out.symm⟩⟩
end Go.Proofs.YtkljakeccfnakaaGreatDoor
