/-
  The walk of a unit.
-/
import Derived.Test.YtkljakeccfnakaaGreatDoorHg
import Derived.Test.YtkljakeccfnakaaGreatDoorHH
namespace Go.Proofs.YtkljakeccfnakaaGreatDoor
open Go.RowKit

set_option maxHeartbeats 8000000 in
theorem unit_reads {Z R en f : Nat} (KU : Reads Z R en f 169 .unit) (KI : ∀ p : Nat, ReadsA Z R en f 179 #[.int .i64 (p : Nat)] (insideC p)) (KN : ∀ t : Tok, ReadsA Z R en f 180 #[tkV t] (namedC t)) : ReadsC Z R en f 169 (.see begins (.take unitT) .stop) := by
  intro ts O w hw hO hg
  have lz : Z ≤ w.heap.size := hw.size
  have lr : R < Z := hw.rz
  have HO := Hid.intro hO
  have HW := Hid.intro hw
  have HKU := Hid.intro KU
  have HKI := Hid.intro KI
  have HKN := Hid.intro KN
  have HG0 := Hid.intro hg
  clear KU KI KN hw hO hg
  have F0 := fld0; have F1 := fld1; have F2 := fld2; have F3 := fld3
  go_enter Tryz.func169, Tryz.ntmps169
  go_wp2_with fail
  refine (peek_any Z R en ts _ (HW.out.below (by repeat (first | with_reducible exact Below.refl _ _ | with_reducible refine Below.alloc ?_ (by first | omega | (simp; done) | (simp; omega)) _ | with_reducible refine Below.drew ?_ | with_reducible refine Below.setCell ?_ (by first | (dsimp only; omega) | (simp; omega)) _ )))).mono ?_
  rintro e w1 ⟨rfl, hp1⟩
  have hb1 := But.of (R := R) hp1
  unfold tkV
  have l1 := hb1.size
  (try simp at l1)
  obtain ⟨⟨q1_0, q1_1, q1_2, q1_3, q1_4, q1_5⟩, q1_f, q1_l⟩ := keep6 hb1 (w.heap.size) (by first | omega | (simp; done) | (simp; omega)) (.int .i64 0) (.string ⟨#[]⟩) (.string ⟨#[]⟩) (.int .i64 0) (.int .i64 0) (.slice none 0 0) (by first | omega | (simp; done) | (simp; omega)) (by go_simp) (by go_simp) (by go_simp) (by go_simp) (by go_simp) (by go_simp) (by go_simp)
  have q1_f0 := q1_f 0
  have q1_f1 := q1_f 1
  have q1_f2 := q1_f 2
  have q1_f3 := q1_f 3
  have q1_f4 := q1_f 4
  have q1_f5 := q1_f 5
  have HS1 : Hid (St Z R en w1 ts) := Hid.intro (St.to (HW.out.below (by repeat (first | with_reducible exact Below.refl _ _ | with_reducible refine Below.alloc ?_ (by first | omega | (simp; done) | (simp; omega)) _ | with_reducible refine Below.drew ?_ | with_reducible refine Below.setCell ?_ (by first | (dsimp only; omega) | (simp; omega)) _ ))) hp1)
  clear hp1
  go_wp2_with fail
  refine (beginsUnit_any (nextT en ts) _).mono ?_
  rintro e w2 ⟨rfl, hp2⟩
  have hb2 := But.of (R := R) hp2
  have l2 := hb2.size
  (try simp at l2)
  obtain ⟨⟨q2_0, q2_1, q2_2, q2_3, q2_4, q2_5⟩, q2_f, q2_l⟩ := keep6 hb2 (w.heap.size) (by first | omega | (simp; done) | (simp; omega)) (.int .i64 0) (.string ⟨#[]⟩) (.string ⟨#[]⟩) (.int .i64 0) (.int .i64 0) (.slice none 0 0) (by first | omega | (simp; done) | (simp; omega)) (by go_simp) (by go_simp) (by go_simp) (by go_simp) (by go_simp) (by go_simp) (by go_simp)
  have q2_f0 := q2_f 0
  have q2_f1 := q2_f 1
  have q2_f2 := q2_f 2
  have q2_f3 := q2_f 3
  have q2_f4 := q2_f 4
  have q2_f5 := q2_f 5
  clear q1_0 q1_1 q1_2 q1_3 q1_4 q1_5 q1_f0 q1_f1 q1_f2 q1_f3 q1_f4 q1_f5 q1_f
  have HS2 : Hid (St Z R en w2 ts) := Hid.intro (St.to (HS1.out.below (by repeat (first | with_reducible exact Below.refl _ _ | with_reducible refine Below.alloc ?_ (by first | omega | (simp; done) | (simp; omega)) _ | with_reducible refine Below.drew ?_ | with_reducible refine Below.setCell ?_ (by first | (dsimp only; omega) | (simp; omega)) _ ))) hp2)
  clear hp2
  cases hbg : hd begins ts
  · have hbn : begins (nextT en ts) = false := by cases ts with | nil => rfl | cons => exact hbg
    rw [hbn]
    have HGo : Hid (Gone en O 11 (place en ts)) := Or.inl ⟨rfl, ts, by rw [← HG0.out]; simp [runC, hbg], rfl⟩
    clear hbg hbn
    go_wp2_with fail
    refine (stop_any Z R en ts _ (HS2.out.below (by repeat (first | with_reducible exact Below.refl _ _ | with_reducible refine Below.alloc ?_ (by first | omega | (simp; done) | (simp; omega)) _ | with_reducible refine Below.drew ?_ | with_reducible refine Below.setCell ?_ (by first | (dsimp only; omega) | (simp; omega)) _ )))).mono ?_
    rintro e w3 ⟨rfl, hp⟩
    have hb3 := But.of (R := R) hp
    exact ⟨rfl, (by repeat (first | with_reducible exact But.refl _ _ | with_reducible refine But.alloc ?_ _ | with_reducible refine But.drew ?_ | with_reducible refine But.setCell ?_ (by first | (left; dsimp only; omega) | (left; simp; omega)) _ | with_reducible refine But.trans ?_ (by assumption) | with_reducible refine But.below ?_ (by assumption))), Or.inr ⟨11, _, rfl, HGo.out⟩⟩
  cases ts with
  | nil => cases hbg
  | cons t r =>
    have hbn : begins (nextT en (t :: r)) = true := hbg
    rw [hbn]
    have HG1 : Hid (runC en (P en f) (unitT t) r = O) := Hid.intro (by rw [← HG0.out]; simp [runC, hbg])
    clear hbg hbn HG0
    generalize hnt : nextT en (t :: r) = t00 at *
    clear hnt
    go_wp2_with fail
    refine (take_any Z R en t r _ (HS2.out.below (by repeat (first | with_reducible exact Below.refl _ _ | with_reducible refine Below.alloc ?_ (by first | omega | (simp; done) | (simp; omega)) _ | with_reducible refine Below.drew ?_ | with_reducible refine Below.setCell ?_ (by first | (dsimp only; omega) | (simp; omega)) _ )))).mono ?_
    rintro e w4 ⟨rfl, hs, hb4⟩
    unfold tkV
    have l4 := hb4.size
    (try simp at l4)
    obtain ⟨⟨q3_0, q3_1, q3_2, q3_3, q3_4, q3_5⟩, q3_f, q3_l⟩ := keep6 hb4 (w.heap.size) (by first | omega | (simp; done) | (simp; omega)) (.int .i64 0) (.string ⟨#[]⟩) (.string ⟨#[]⟩) (.int .i64 0) (.int .i64 0) (.slice none 0 0) (by first | omega | (simp; done) | (simp; omega)) (by go_simp) (by go_simp) (by go_simp) (by go_simp) (by go_simp) (by go_simp) (by go_simp)
    have q3_f0 := q3_f 0
    have q3_f1 := q3_f 1
    have q3_f2 := q3_f 2
    have q3_f3 := q3_f 3
    have q3_f4 := q3_f 4
    have q3_f5 := q3_f 5
    clear q2_0 q2_1 q2_2 q2_3 q2_4 q2_5 q2_f0 q2_f1 q2_f2 q2_f3 q2_f4 q2_f5 q2_f
    have HS4 := Hid.intro hs
    clear hs
    cases c0 : (t.text == [33])
    rotate_left
    · have HG2 : Hid (runC en (P en f) (unitT t) r = O) := HG1
      unfold unitT at HG2
      rw [ if_pos (eq_of_beq c0)] at HG2
      go_wp2_with fail
      have dd01 : w.heap.size ≠ w4.heap.size := by omega
      have dd10 : w4.heap.size ≠ w.heap.size := by omega
      go_region_held (fun w' => w'.cell? ⟨w4.heap.size, 0, none⟩ = some (.int .i64 (t.kind : Nat)) ∧ w'.cell? ⟨w4.heap.size, 1, none⟩ = some (.string ⟨t.text.toArray⟩) ∧ w'.cell? ⟨w4.heap.size, 2, none⟩ = some (.int .i64 (t.val : Nat)) ∧ w'.cell? ⟨w4.heap.size, 3, none⟩ = some (.int .i64 (t.pos : Nat))) (go_keep)
        (first | (go_at_call 103; refine (name_step _ (HS4.out.below (by repeat (first | with_reducible exact Below.refl _ _ | with_reducible refine Below.alloc ?_ (by first | omega | (simp; done) | (simp; omega)) _ | with_reducible refine Below.drew ?_ | with_reducible refine Below.setCell ?_ (by first | (dsimp only; omega) | (simp; omega)) _ ))) HG2.out).mono ?_; rintro e w5 ⟨hb5, ⟨t5, r5, rfl, hs, hG⟩ | ⟨c, p, rfl, hG⟩⟩; rotate_left; (exact ⟨rfl, (by repeat (first | with_reducible exact But.refl _ _ | with_reducible refine But.alloc ?_ _ | with_reducible refine But.drew ?_ | with_reducible refine But.setCell ?_ (by first | (left; dsimp only; omega) | (left; simp; omega)) _ | with_reducible refine But.trans ?_ (by assumption) | with_reducible refine But.below ?_ (by assumption))), Or.inr ⟨c, p, rfl, hG⟩⟩); have HS5 := Hid.intro hs; have HG5 := Hid.intro hG; clear hs hG; have l5 := hb5.size; (try simp at l5); obtain ⟨⟨g50_0, g50_1, g50_2, g50_3, g50_4, g50_5⟩, g50_f, g50_l⟩ := keep6 hb5 (w.heap.size) (by first | omega | (simp; done) | (simp; omega)) (.int .i64 0) (.string ⟨#[]⟩) (.string ⟨#[]⟩) (.int .i64 0) (.int .i64 0) (.slice none 0 0) (by first | omega | (simp; done) | (simp; omega)) (by go_simp) (by go_simp) (by go_simp) (by go_simp) (by go_simp) (by go_simp) (by go_simp); have g50_f0 := g50_f 0; have g50_f1 := g50_f 1; have g50_f2 := g50_f 2; have g50_f3 := g50_f 3; have g50_f4 := g50_f 4; have g50_f5 := g50_f 5; obtain ⟨⟨g51_0, g51_1, g51_2, g51_3⟩, g51_f, g51_l⟩ := keep4 hb5 (w4.heap.size) (by first | omega | (simp; done) | (simp; omega)) (.int .i64 (t.kind : Nat)) (.string ⟨t.text.toArray⟩) (.int .i64 (t.val : Nat)) (.int .i64 (t.pos : Nat)) (by first | omega | (simp; done) | (simp; omega)) (by go_simp) (by go_simp) (by go_simp) (by go_simp) (by go_simp); have g51_f0 := g51_f 0; have g51_f1 := g51_f 1; have g51_f2 := g51_f 2; have g51_f3 := g51_f 3))
      simp only [Exit.then]
      go_wp2_with fail
      refine bodyPost_ret (v := .agg #[.int .i64 10, .string ⟨(t5.text).toArray⟩, .string ⟨#[]⟩, .int .i64 0, .int .i64 (t.pos : Nat), .slice none 0 0]) (by simp [results, Tryz.results169, go_sem, *]) rfl ⟨(by repeat (first | with_reducible exact But.refl _ _ | with_reducible refine But.alloc ?_ _ | with_reducible refine But.drew ?_ | with_reducible refine But.setCell ?_ (by first | (left; dsimp only; omega) | (left; simp; omega)) _ | with_reducible refine But.trans ?_ (by assumption) | with_reducible refine But.below ?_ (by assumption))), Or.inl ⟨_, _, _, rfl, ?_, (HS5.out.below (by repeat (first | with_reducible exact Below.refl _ _ | with_reducible refine Below.alloc ?_ (by first | omega | (simp; done) | (simp; omega)) _ | with_reducible refine Below.drew ?_ | with_reducible refine Below.setCell ?_ (by first | (dsimp only; omega) | (simp; omega)) _ ))), HG5.out.symm⟩⟩
      exact ExV.leaf 10 t5.text [] 0 (t.pos)
    cases c1 : (t.text == [112, 114, 105, 110, 116])
    rotate_left
    · have HG2 : Hid (runC en (P en f) (unitT t) r = O) := HG1
      unfold unitT at HG2
      rw [if_neg (fun e => by rw [e] at c0; cases c0), if_pos (eq_of_beq c1)] at HG2
      go_wp2_with fail
      have dd01 : w.heap.size ≠ w4.heap.size := by omega
      have dd10 : w4.heap.size ≠ w.heap.size := by omega
      go_region_held (fun w' => w'.cell? ⟨w4.heap.size, 0, none⟩ = some (.int .i64 (t.kind : Nat)) ∧ w'.cell? ⟨w4.heap.size, 1, none⟩ = some (.string ⟨t.text.toArray⟩) ∧ w'.cell? ⟨w4.heap.size, 2, none⟩ = some (.int .i64 (t.val : Nat)) ∧ w'.cell? ⟨w4.heap.size, 3, none⟩ = some (.int .i64 (t.pos : Nat))) (go_keep)
        (first | (go_at_call 169; refine (HKU.out _ _ _ _ (HS4.out.below (by repeat (first | with_reducible exact Below.refl _ _ | with_reducible refine Below.alloc ?_ (by first | omega | (simp; done) | (simp; omega)) _ | with_reducible refine Below.drew ?_ | with_reducible refine Below.setCell ?_ (by first | (dsimp only; omega) | (simp; omega)) _ ))) HO.out HG2.out).mono ?_; rintro e w6 ⟨hb6, ⟨v6, x6, r6, rfl, hx6, hs, hG⟩ | ⟨c, p, rfl, hG⟩⟩; rotate_left; (exact ⟨rfl, (by repeat (first | with_reducible exact But.refl _ _ | with_reducible refine But.alloc ?_ _ | with_reducible refine But.drew ?_ | with_reducible refine But.setCell ?_ (by first | (left; dsimp only; omega) | (left; simp; omega)) _ | with_reducible refine But.trans ?_ (by assumption) | with_reducible refine But.below ?_ (by assumption))), Or.inr ⟨c, p, rfl, hG⟩⟩); obtain ⟨nn6, tx6, ox6, a6, ln6, cp6, rfl, htx6⟩ := hx6.form2; have HX6 := Hid.intro hx6; have HT6 := Hid.intro htx6; have HS6 := Hid.intro hs; have HG6 := Hid.intro hG; clear hx6 hs htx6 hG; have l6 := hb6.size; (try simp at l6); obtain ⟨⟨g60_0, g60_1, g60_2, g60_3, g60_4, g60_5⟩, g60_f, g60_l⟩ := keep6 hb6 (w.heap.size) (by first | omega | (simp; done) | (simp; omega)) (.int .i64 0) (.string ⟨#[]⟩) (.string ⟨#[]⟩) (.int .i64 0) (.int .i64 0) (.slice none 0 0) (by first | omega | (simp; done) | (simp; omega)) (by go_simp) (by go_simp) (by go_simp) (by go_simp) (by go_simp) (by go_simp) (by go_simp); have g60_f0 := g60_f 0; have g60_f1 := g60_f 1; have g60_f2 := g60_f 2; have g60_f3 := g60_f 3; have g60_f4 := g60_f 4; have g60_f5 := g60_f 5; obtain ⟨⟨g61_0, g61_1, g61_2, g61_3⟩, g61_f, g61_l⟩ := keep4 hb6 (w4.heap.size) (by first | omega | (simp; done) | (simp; omega)) (.int .i64 (t.kind : Nat)) (.string ⟨t.text.toArray⟩) (.int .i64 (t.val : Nat)) (.int .i64 (t.pos : Nat)) (by first | omega | (simp; done) | (simp; omega)) (by go_simp) (by go_simp) (by go_simp) (by go_simp) (by go_simp); have g61_f0 := g61_f 0; have g61_f1 := g61_f 1; have g61_f2 := g61_f 2; have g61_f3 := g61_f 3))
      simp only [Exit.then]
      go_wp2_with fail
      refine bodyPost_ret (v := .agg #[.int .i64 17, .string ⟨#[]⟩, .string ⟨#[]⟩, .int .i64 0, .int .i64 (t.pos : Nat), .slice (some ⟨w6.heap.size, 0, none⟩) 1 1]) (by simp [results, Tryz.results169, go_sem, *]) rfl ⟨(by repeat (first | with_reducible exact But.refl _ _ | with_reducible refine But.alloc ?_ _ | with_reducible refine But.drew ?_ | with_reducible refine But.setCell ?_ (by first | (left; dsimp only; omega) | (left; simp; omega)) _ | with_reducible refine But.trans ?_ (by assumption) | with_reducible refine But.below ?_ (by assumption))), Or.inl ⟨_, _, _, rfl, ?_, (HS6.out.below (by repeat (first | with_reducible exact Below.refl _ _ | with_reducible refine Below.alloc ?_ (by first | omega | (simp; done) | (simp; omega)) _ | with_reducible refine Below.drew ?_ | with_reducible refine Below.setCell ?_ (by first | (dsimp only; omega) | (simp; omega)) _ ))), HG6.out.symm⟩⟩
      refine ex_one (k := 17) (t := []) (o := []) (n := 0) (p := t.pos) (u1 := .agg #[.int .i64 (x6.kind : Int), .string tx6, .string ox6, .int .i64 nn6, .int .i64 (x6.pl : Int), .slice a6 ln6 cp6]) (by first | omega | (simp; done) | (simp; omega)) (by first | omega | (simp; done) | (simp; omega)) ?_ ((HX6.out.keep (by repeat (first | with_reducible exact Kept.refl _ _ | with_reducible refine Kept.alloc ?_ _ | with_reducible refine Kept.drew ?_ | with_reducible refine Kept.setCell ?_ (by first | (left; dsimp only; omega) | (right; dsimp only; omega) | (left; simp; omega) | (right; simp; omega)) _ | with_reducible refine Kept.but ?_ (by assumption) (by first | omega | (simp; omega)) | with_reducible refine Kept.below ?_ (by assumption)))).low (by first | omega | (simp; done) | (simp; omega)))
      all_goals
        refine six ?_ ?_ ?_ ?_ ?_ ?_
        all_goals first | (go_simp; done) | (go_simp; rfl)
    cases c2 : (t.text == [115, 111, 109, 101])
    rotate_left
    · have HG2 : Hid (runC en (P en f) (unitT t) r = O) := HG1
      unfold unitT at HG2
      rw [if_neg (fun e => by rw [e] at c0; cases c0), if_neg (fun e => by rw [e] at c1; cases c1), if_pos (eq_of_beq c2)] at HG2
      go_wp2_with fail
      have dd01 : w.heap.size ≠ w4.heap.size := by omega
      have dd10 : w4.heap.size ≠ w.heap.size := by omega
      go_region_held (fun w' => w'.cell? ⟨w4.heap.size, 0, none⟩ = some (.int .i64 (t.kind : Nat)) ∧ w'.cell? ⟨w4.heap.size, 1, none⟩ = some (.string ⟨t.text.toArray⟩) ∧ w'.cell? ⟨w4.heap.size, 2, none⟩ = some (.int .i64 (t.val : Nat)) ∧ w'.cell? ⟨w4.heap.size, 3, none⟩ = some (.int .i64 (t.pos : Nat))) (go_keep)
        (first | (go_at_call 169; refine (HKU.out _ _ _ _ (HS4.out.below (by repeat (first | with_reducible exact Below.refl _ _ | with_reducible refine Below.alloc ?_ (by first | omega | (simp; done) | (simp; omega)) _ | with_reducible refine Below.drew ?_ | with_reducible refine Below.setCell ?_ (by first | (dsimp only; omega) | (simp; omega)) _ ))) HO.out HG2.out).mono ?_; rintro e w7 ⟨hb7, ⟨v7, x7, r7, rfl, hx7, hs, hG⟩ | ⟨c, p, rfl, hG⟩⟩; rotate_left; (exact ⟨rfl, (by repeat (first | with_reducible exact But.refl _ _ | with_reducible refine But.alloc ?_ _ | with_reducible refine But.drew ?_ | with_reducible refine But.setCell ?_ (by first | (left; dsimp only; omega) | (left; simp; omega)) _ | with_reducible refine But.trans ?_ (by assumption) | with_reducible refine But.below ?_ (by assumption))), Or.inr ⟨c, p, rfl, hG⟩⟩); obtain ⟨nn7, tx7, ox7, a7, ln7, cp7, rfl, htx7⟩ := hx7.form2; have HX7 := Hid.intro hx7; have HT7 := Hid.intro htx7; have HS7 := Hid.intro hs; have HG7 := Hid.intro hG; clear hx7 hs htx7 hG; have l7 := hb7.size; (try simp at l7); obtain ⟨⟨g70_0, g70_1, g70_2, g70_3, g70_4, g70_5⟩, g70_f, g70_l⟩ := keep6 hb7 (w.heap.size) (by first | omega | (simp; done) | (simp; omega)) (.int .i64 0) (.string ⟨#[]⟩) (.string ⟨#[]⟩) (.int .i64 0) (.int .i64 0) (.slice none 0 0) (by first | omega | (simp; done) | (simp; omega)) (by go_simp) (by go_simp) (by go_simp) (by go_simp) (by go_simp) (by go_simp) (by go_simp); have g70_f0 := g70_f 0; have g70_f1 := g70_f 1; have g70_f2 := g70_f 2; have g70_f3 := g70_f 3; have g70_f4 := g70_f 4; have g70_f5 := g70_f 5; obtain ⟨⟨g71_0, g71_1, g71_2, g71_3⟩, g71_f, g71_l⟩ := keep4 hb7 (w4.heap.size) (by first | omega | (simp; done) | (simp; omega)) (.int .i64 (t.kind : Nat)) (.string ⟨t.text.toArray⟩) (.int .i64 (t.val : Nat)) (.int .i64 (t.pos : Nat)) (by first | omega | (simp; done) | (simp; omega)) (by go_simp) (by go_simp) (by go_simp) (by go_simp) (by go_simp); have g71_f0 := g71_f 0; have g71_f1 := g71_f 1; have g71_f2 := g71_f 2; have g71_f3 := g71_f 3))
      simp only [Exit.then]
      go_wp2_with fail
      refine bodyPost_ret (v := .agg #[.int .i64 19, .string ⟨#[]⟩, .string ⟨#[]⟩, .int .i64 0, .int .i64 (t.pos : Nat), .slice (some ⟨w7.heap.size, 0, none⟩) 1 1]) (by simp [results, Tryz.results169, go_sem, *]) rfl ⟨(by repeat (first | with_reducible exact But.refl _ _ | with_reducible refine But.alloc ?_ _ | with_reducible refine But.drew ?_ | with_reducible refine But.setCell ?_ (by first | (left; dsimp only; omega) | (left; simp; omega)) _ | with_reducible refine But.trans ?_ (by assumption) | with_reducible refine But.below ?_ (by assumption))), Or.inl ⟨_, _, _, rfl, ?_, (HS7.out.below (by repeat (first | with_reducible exact Below.refl _ _ | with_reducible refine Below.alloc ?_ (by first | omega | (simp; done) | (simp; omega)) _ | with_reducible refine Below.drew ?_ | with_reducible refine Below.setCell ?_ (by first | (dsimp only; omega) | (simp; omega)) _ ))), HG7.out.symm⟩⟩
      refine ex_one (k := 19) (t := []) (o := []) (n := 0) (p := t.pos) (u1 := .agg #[.int .i64 (x7.kind : Int), .string tx7, .string ox7, .int .i64 nn7, .int .i64 (x7.pl : Int), .slice a7 ln7 cp7]) (by first | omega | (simp; done) | (simp; omega)) (by first | omega | (simp; done) | (simp; omega)) ?_ ((HX7.out.keep (by repeat (first | with_reducible exact Kept.refl _ _ | with_reducible refine Kept.alloc ?_ _ | with_reducible refine Kept.drew ?_ | with_reducible refine Kept.setCell ?_ (by first | (left; dsimp only; omega) | (right; dsimp only; omega) | (left; simp; omega) | (right; simp; omega)) _ | with_reducible refine Kept.but ?_ (by assumption) (by first | omega | (simp; omega)) | with_reducible refine Kept.below ?_ (by assumption)))).low (by first | omega | (simp; done) | (simp; omega)))
      all_goals
        refine six ?_ ?_ ?_ ?_ ?_ ?_
        all_goals first | (go_simp; done) | (go_simp; rfl)
    cases c3 : (t.text == [115, 119, 97, 112])
    rotate_left
    · have HG2 : Hid (runC en (P en f) (unitT t) r = O) := HG1
      unfold unitT at HG2
      rw [if_neg (fun e => by rw [e] at c0; cases c0), if_neg (fun e => by rw [e] at c1; cases c1), if_neg (fun e => by rw [e] at c2; cases c2), if_pos (eq_of_beq c3)] at HG2
      go_wp2_with fail
      have dd01 : w.heap.size ≠ w4.heap.size := by omega
      have dd10 : w4.heap.size ≠ w.heap.size := by omega
      go_region_held (fun w' => w'.cell? ⟨w4.heap.size, 0, none⟩ = some (.int .i64 (t.kind : Nat)) ∧ w'.cell? ⟨w4.heap.size, 1, none⟩ = some (.string ⟨t.text.toArray⟩) ∧ w'.cell? ⟨w4.heap.size, 2, none⟩ = some (.int .i64 (t.val : Nat)) ∧ w'.cell? ⟨w4.heap.size, 3, none⟩ = some (.int .i64 (t.pos : Nat))) (go_keep)
        (first | (go_at_call 169; refine (HKU.out _ _ _ _ (HS8.out.below (by repeat (first | with_reducible exact Below.refl _ _ | with_reducible refine Below.alloc ?_ (by first | omega | (simp; done) | (simp; omega)) _ | with_reducible refine Below.drew ?_ | with_reducible refine Below.setCell ?_ (by first | (dsimp only; omega) | (simp; omega)) _ ))) HO.out HG8.out).mono ?_; rintro e w9 ⟨hb9, ⟨v9, x9, r9, rfl, hx9, hs, hG⟩ | ⟨c, p, rfl, hG⟩⟩; rotate_left; (exact ⟨rfl, (by repeat (first | with_reducible exact But.refl _ _ | with_reducible refine But.alloc ?_ _ | with_reducible refine But.drew ?_ | with_reducible refine But.setCell ?_ (by first | (left; dsimp only; omega) | (left; simp; omega)) _ | with_reducible refine But.trans ?_ (by assumption) | with_reducible refine But.below ?_ (by assumption))), Or.inr ⟨c, p, rfl, hG⟩⟩); obtain ⟨nn9, tx9, ox9, a9, ln9, cp9, rfl, htx9⟩ := hx9.form2; have HX9 := Hid.intro hx9; have HT9 := Hid.intro htx9; have HS9 := Hid.intro hs; have HG9 := Hid.intro hG; clear hx9 hs htx9 hG; have l9 := hb9.size; (try simp at l9); obtain ⟨⟨g90_0, g90_1, g90_2, g90_3, g90_4, g90_5⟩, g90_f, g90_l⟩ := keep6 hb9 (w.heap.size) (by first | omega | (simp; done) | (simp; omega)) (.int .i64 0) (.string ⟨#[]⟩) (.string ⟨#[]⟩) (.int .i64 0) (.int .i64 0) (.slice none 0 0) (by first | omega | (simp; done) | (simp; omega)) (by go_simp) (by go_simp) (by go_simp) (by go_simp) (by go_simp) (by go_simp) (by go_simp); have g90_f0 := g90_f 0; have g90_f1 := g90_f 1; have g90_f2 := g90_f 2; have g90_f3 := g90_f 3; have g90_f4 := g90_f 4; have g90_f5 := g90_f 5; obtain ⟨⟨g91_0, g91_1, g91_2, g91_3⟩, g91_f, g91_l⟩ := keep4 hb9 (w4.heap.size) (by first | omega | (simp; done) | (simp; omega)) (.int .i64 (t.kind : Nat)) (.string ⟨t.text.toArray⟩) (.int .i64 (t.val : Nat)) (.int .i64 (t.pos : Nat)) (by first | omega | (simp; done) | (simp; omega)) (by go_simp) (by go_simp) (by go_simp) (by go_simp) (by go_simp); have g91_f0 := g91_f 0; have g91_f1 := g91_f 1; have g91_f2 := g91_f 2; have g91_f3 := g91_f 3) | (go_at_call 103; refine (name_step _ (HS4.out.below (by repeat (first | with_reducible exact Below.refl _ _ | with_reducible refine Below.alloc ?_ (by first | omega | (simp; done) | (simp; omega)) _ | with_reducible refine Below.drew ?_ | with_reducible refine Below.setCell ?_ (by first | (dsimp only; omega) | (simp; omega)) _ ))) HG2.out).mono ?_; rintro e w8 ⟨hb8, ⟨t8, r8, rfl, hs, hG⟩ | ⟨c, p, rfl, hG⟩⟩; rotate_left; (exact ⟨rfl, (by repeat (first | with_reducible exact But.refl _ _ | with_reducible refine But.alloc ?_ _ | with_reducible refine But.drew ?_ | with_reducible refine But.setCell ?_ (by first | (left; dsimp only; omega) | (left; simp; omega)) _ | with_reducible refine But.trans ?_ (by assumption) | with_reducible refine But.below ?_ (by assumption))), Or.inr ⟨c, p, rfl, hG⟩⟩); have HS8 := Hid.intro hs; have HG8 := Hid.intro hG; clear hs hG; have l8 := hb8.size; (try simp at l8); obtain ⟨⟨g80_0, g80_1, g80_2, g80_3, g80_4, g80_5⟩, g80_f, g80_l⟩ := keep6 hb8 (w.heap.size) (by first | omega | (simp; done) | (simp; omega)) (.int .i64 0) (.string ⟨#[]⟩) (.string ⟨#[]⟩) (.int .i64 0) (.int .i64 0) (.slice none 0 0) (by first | omega | (simp; done) | (simp; omega)) (by go_simp) (by go_simp) (by go_simp) (by go_simp) (by go_simp) (by go_simp) (by go_simp); have g80_f0 := g80_f 0; have g80_f1 := g80_f 1; have g80_f2 := g80_f 2; have g80_f3 := g80_f 3; have g80_f4 := g80_f 4; have g80_f5 := g80_f 5; obtain ⟨⟨g81_0, g81_1, g81_2, g81_3⟩, g81_f, g81_l⟩ := keep4 hb8 (w4.heap.size) (by first | omega | (simp; done) | (simp; omega)) (.int .i64 (t.kind : Nat)) (.string ⟨t.text.toArray⟩) (.int .i64 (t.val : Nat)) (.int .i64 (t.pos : Nat)) (by first | omega | (simp; done) | (simp; omega)) (by go_simp) (by go_simp) (by go_simp) (by go_simp) (by go_simp); have g81_f0 := g81_f 0; have g81_f1 := g81_f 1; have g81_f2 := g81_f 2; have g81_f3 := g81_f 3))
      simp only [Exit.then]
      go_wp2_with fail
      refine bodyPost_ret (v := .agg #[.int .i64 14, .string ⟨(t8.text).toArray⟩, .string ⟨#[]⟩, .int .i64 0, .int .i64 (t.pos : Nat), .slice (some ⟨w9.heap.size, 0, none⟩) 1 1]) (by simp [results, Tryz.results169, go_sem, *]) rfl ⟨(by repeat (first | with_reducible exact But.refl _ _ | with_reducible refine But.alloc ?_ _ | with_reducible refine But.drew ?_ | with_reducible refine But.setCell ?_ (by first | (left; dsimp only; omega) | (left; simp; omega)) _ | with_reducible refine But.trans ?_ (by assumption) | with_reducible refine But.below ?_ (by assumption))), Or.inl ⟨_, _, _, rfl, ?_, (HS9.out.below (by repeat (first | with_reducible exact Below.refl _ _ | with_reducible refine Below.alloc ?_ (by first | omega | (simp; done) | (simp; omega)) _ | with_reducible refine Below.drew ?_ | with_reducible refine Below.setCell ?_ (by first | (dsimp only; omega) | (simp; omega)) _ ))), HG9.out.symm⟩⟩
      refine ex_one (k := 14) (t := t8.text) (o := []) (n := 0) (p := t.pos) (u1 := .agg #[.int .i64 (x9.kind : Int), .string tx9, .string ox9, .int .i64 nn9, .int .i64 (x9.pl : Int), .slice a9 ln9 cp9]) (by first | omega | (simp; done) | (simp; omega)) (by first | omega | (simp; done) | (simp; omega)) ?_ ((HX9.out.keep (by repeat (first | with_reducible exact Kept.refl _ _ | with_reducible refine Kept.alloc ?_ _ | with_reducible refine Kept.drew ?_ | with_reducible refine Kept.setCell ?_ (by first | (left; dsimp only; omega) | (right; dsimp only; omega) | (left; simp; omega) | (right; simp; omega)) _ | with_reducible refine Kept.but ?_ (by assumption) (by first | omega | (simp; omega)) | with_reducible refine Kept.below ?_ (by assumption)))).low (by first | omega | (simp; done) | (simp; omega)))
      all_goals
        refine six ?_ ?_ ?_ ?_ ?_ ?_
        all_goals first | (go_simp; done) | (go_simp; rfl)
    cases c4 : (t.text == [97, 100, 100])
    rotate_left
    · have HG2 : Hid (runC en (P en f) (unitT t) r = O) := HG1
      unfold unitT at HG2
      rw [if_neg (fun e => by rw [e] at c0; cases c0), if_neg (fun e => by rw [e] at c1; cases c1), if_neg (fun e => by rw [e] at c2; cases c2), if_neg (fun e => by rw [e] at c3; cases c3), if_pos (eq_of_beq c4)] at HG2
      go_wp2_with fail
      have dd01 : w.heap.size ≠ w4.heap.size := by omega
      have dd10 : w4.heap.size ≠ w.heap.size := by omega
      go_region_held (fun w' => w'.cell? ⟨w4.heap.size, 0, none⟩ = some (.int .i64 (t.kind : Nat)) ∧ w'.cell? ⟨w4.heap.size, 1, none⟩ = some (.string ⟨t.text.toArray⟩) ∧ w'.cell? ⟨w4.heap.size, 2, none⟩ = some (.int .i64 (t.val : Nat)) ∧ w'.cell? ⟨w4.heap.size, 3, none⟩ = some (.int .i64 (t.pos : Nat))) (go_keep)
        (first | (go_at_call 169; refine (HKU.out _ _ _ _ (HS10.out.below (by repeat (first | with_reducible exact Below.refl _ _ | with_reducible refine Below.alloc ?_ (by first | omega | (simp; done) | (simp; omega)) _ | with_reducible refine Below.drew ?_ | with_reducible refine Below.setCell ?_ (by first | (dsimp only; omega) | (simp; omega)) _ ))) HO.out HG10.out).mono ?_; rintro e w11 ⟨hb11, ⟨v11, x11, r11, rfl, hx11, hs, hG⟩ | ⟨c, p, rfl, hG⟩⟩; rotate_left; (exact ⟨rfl, (by repeat (first | with_reducible exact But.refl _ _ | with_reducible refine But.alloc ?_ _ | with_reducible refine But.drew ?_ | with_reducible refine But.setCell ?_ (by first | (left; dsimp only; omega) | (left; simp; omega)) _ | with_reducible refine But.trans ?_ (by assumption) | with_reducible refine But.below ?_ (by assumption))), Or.inr ⟨c, p, rfl, hG⟩⟩); obtain ⟨nn11, tx11, ox11, a11, ln11, cp11, rfl, htx11⟩ := hx11.form2; have HX11 := Hid.intro hx11; have HT11 := Hid.intro htx11; have HS11 := Hid.intro hs; have HG11 := Hid.intro hG; clear hx11 hs htx11 hG; have l11 := hb11.size; (try simp at l11); obtain ⟨⟨g110_0, g110_1, g110_2, g110_3, g110_4, g110_5⟩, g110_f, g110_l⟩ := keep6 hb11 (w.heap.size) (by first | omega | (simp; done) | (simp; omega)) (.int .i64 0) (.string ⟨#[]⟩) (.string ⟨#[]⟩) (.int .i64 0) (.int .i64 0) (.slice none 0 0) (by first | omega | (simp; done) | (simp; omega)) (by go_simp) (by go_simp) (by go_simp) (by go_simp) (by go_simp) (by go_simp) (by go_simp); have g110_f0 := g110_f 0; have g110_f1 := g110_f 1; have g110_f2 := g110_f 2; have g110_f3 := g110_f 3; have g110_f4 := g110_f 4; have g110_f5 := g110_f 5; obtain ⟨⟨g111_0, g111_1, g111_2, g111_3⟩, g111_f, g111_l⟩ := keep4 hb11 (w4.heap.size) (by first | omega | (simp; done) | (simp; omega)) (.int .i64 (t.kind : Nat)) (.string ⟨t.text.toArray⟩) (.int .i64 (t.val : Nat)) (.int .i64 (t.pos : Nat)) (by first | omega | (simp; done) | (simp; omega)) (by go_simp) (by go_simp) (by go_simp) (by go_simp) (by go_simp); have g111_f0 := g111_f 0; have g111_f1 := g111_f 1; have g111_f2 := g111_f 2; have g111_f3 := g111_f 3) | (go_at_call 103; refine (name_step _ (HS4.out.below (by repeat (first | with_reducible exact Below.refl _ _ | with_reducible refine Below.alloc ?_ (by first | omega | (simp; done) | (simp; omega)) _ | with_reducible refine Below.drew ?_ | with_reducible refine Below.setCell ?_ (by first | (dsimp only; omega) | (simp; omega)) _ ))) HG2.out).mono ?_; rintro e w10 ⟨hb10, ⟨t10, r10, rfl, hs, hG⟩ | ⟨c, p, rfl, hG⟩⟩; rotate_left; (exact ⟨rfl, (by repeat (first | with_reducible exact But.refl _ _ | with_reducible refine But.alloc ?_ _ | with_reducible refine But.drew ?_ | with_reducible refine But.setCell ?_ (by first | (left; dsimp only; omega) | (left; simp; omega)) _ | with_reducible refine But.trans ?_ (by assumption) | with_reducible refine But.below ?_ (by assumption))), Or.inr ⟨c, p, rfl, hG⟩⟩); have HS10 := Hid.intro hs; have HG10 := Hid.intro hG; clear hs hG; have l10 := hb10.size; (try simp at l10); obtain ⟨⟨g100_0, g100_1, g100_2, g100_3, g100_4, g100_5⟩, g100_f, g100_l⟩ := keep6 hb10 (w.heap.size) (by first | omega | (simp; done) | (simp; omega)) (.int .i64 0) (.string ⟨#[]⟩) (.string ⟨#[]⟩) (.int .i64 0) (.int .i64 0) (.slice none 0 0) (by first | omega | (simp; done) | (simp; omega)) (by go_simp) (by go_simp) (by go_simp) (by go_simp) (by go_simp) (by go_simp) (by go_simp); have g100_f0 := g100_f 0; have g100_f1 := g100_f 1; have g100_f2 := g100_f 2; have g100_f3 := g100_f 3; have g100_f4 := g100_f 4; have g100_f5 := g100_f 5; obtain ⟨⟨g101_0, g101_1, g101_2, g101_3⟩, g101_f, g101_l⟩ := keep4 hb10 (w4.heap.size) (by first | omega | (simp; done) | (simp; omega)) (.int .i64 (t.kind : Nat)) (.string ⟨t.text.toArray⟩) (.int .i64 (t.val : Nat)) (.int .i64 (t.pos : Nat)) (by first | omega | (simp; done) | (simp; omega)) (by go_simp) (by go_simp) (by go_simp) (by go_simp) (by go_simp); have g101_f0 := g101_f 0; have g101_f1 := g101_f 1; have g101_f2 := g101_f 2; have g101_f3 := g101_f 3))
      simp only [Exit.then]
      go_wp2_with fail
      refine bodyPost_ret (v := .agg #[.int .i64 15, .string ⟨(t10.text).toArray⟩, .string ⟨#[]⟩, .int .i64 0, .int .i64 (t.pos : Nat), .slice (some ⟨w11.heap.size, 0, none⟩) 1 1]) (by simp [results, Tryz.results169, go_sem, *]) rfl ⟨(by repeat (first | with_reducible exact But.refl _ _ | with_reducible refine But.alloc ?_ _ | with_reducible refine But.drew ?_ | with_reducible refine But.setCell ?_ (by first | (left; dsimp only; omega) | (left; simp; omega)) _ | with_reducible refine But.trans ?_ (by assumption) | with_reducible refine But.below ?_ (by assumption))), Or.inl ⟨_, _, _, rfl, ?_, (HS11.out.below (by repeat (first | with_reducible exact Below.refl _ _ | with_reducible refine Below.alloc ?_ (by first | omega | (simp; done) | (simp; omega)) _ | with_reducible refine Below.drew ?_ | with_reducible refine Below.setCell ?_ (by first | (dsimp only; omega) | (simp; omega)) _ ))), HG11.out.symm⟩⟩
      refine ex_one (k := 15) (t := t10.text) (o := []) (n := 0) (p := t.pos) (u1 := .agg #[.int .i64 (x11.kind : Int), .string tx11, .string ox11, .int .i64 nn11, .int .i64 (x11.pl : Int), .slice a11 ln11 cp11]) (by first | omega | (simp; done) | (simp; omega)) (by first | omega | (simp; done) | (simp; omega)) ?_ ((HX11.out.keep (by repeat (first | with_reducible exact Kept.refl _ _ | with_reducible refine Kept.alloc ?_ _ | with_reducible refine Kept.drew ?_ | with_reducible refine Kept.setCell ?_ (by first | (left; dsimp only; omega) | (right; dsimp only; omega) | (left; simp; omega) | (right; simp; omega)) _ | with_reducible refine Kept.but ?_ (by assumption) (by first | omega | (simp; omega)) | with_reducible refine Kept.below ?_ (by assumption)))).low (by first | omega | (simp; done) | (simp; omega)))
      all_goals
        refine six ?_ ?_ ?_ ?_ ?_ ?_
        all_goals first | (go_simp; done) | (go_simp; rfl)
    cases c5 : (t.text == [99, 97, 115])
    rotate_left
    · have HG2 : Hid (runC en (P en f) (unitT t) r = O) := HG1
      unfold unitT at HG2
      rw [if_neg (fun e => by rw [e] at c0; cases c0), if_neg (fun e => by rw [e] at c1; cases c1), if_neg (fun e => by rw [e] at c2; cases c2), if_neg (fun e => by rw [e] at c3; cases c3), if_neg (fun e => by rw [e] at c4; cases c4), if_pos (eq_of_beq c5)] at HG2
      go_wp2_with fail
      have dd01 : w.heap.size ≠ w4.heap.size := by omega
      have dd10 : w4.heap.size ≠ w.heap.size := by omega
      go_region_held (fun w' => w'.cell? ⟨w4.heap.size, 0, none⟩ = some (.int .i64 (t.kind : Nat)) ∧ w'.cell? ⟨w4.heap.size, 1, none⟩ = some (.string ⟨t.text.toArray⟩) ∧ w'.cell? ⟨w4.heap.size, 2, none⟩ = some (.int .i64 (t.val : Nat)) ∧ w'.cell? ⟨w4.heap.size, 3, none⟩ = some (.int .i64 (t.pos : Nat))) (go_keep)
        (first | (go_at_call 169; refine (HKU.out _ _ _ _ (HS13.out.below (by repeat (first | with_reducible exact Below.refl _ _ | with_reducible refine Below.alloc ?_ (by first | omega | (simp; done) | (simp; omega)) _ | with_reducible refine Below.drew ?_ | with_reducible refine Below.setCell ?_ (by first | (dsimp only; omega) | (simp; omega)) _ ))) HO.out HG13.out).mono ?_; rintro e w14 ⟨hb14, ⟨v14, x14, r14, rfl, hx14, hs, hG⟩ | ⟨c, p, rfl, hG⟩⟩; rotate_left; (exact ⟨rfl, (by repeat (first | with_reducible exact But.refl _ _ | with_reducible refine But.alloc ?_ _ | with_reducible refine But.drew ?_ | with_reducible refine But.setCell ?_ (by first | (left; dsimp only; omega) | (left; simp; omega)) _ | with_reducible refine But.trans ?_ (by assumption) | with_reducible refine But.below ?_ (by assumption))), Or.inr ⟨c, p, rfl, hG⟩⟩); obtain ⟨nn14, tx14, ox14, a14, ln14, cp14, rfl, htx14⟩ := hx14.form2; have HX14 := Hid.intro hx14; have HT14 := Hid.intro htx14; have HS14 := Hid.intro hs; have HG14 := Hid.intro hG; clear hx14 hs htx14 hG; have l14 := hb14.size; (try simp at l14); obtain ⟨⟨g140_0, g140_1, g140_2, g140_3, g140_4, g140_5⟩, g140_f, g140_l⟩ := keep6 hb14 (w.heap.size) (by first | omega | (simp; done) | (simp; omega)) (.int .i64 0) (.string ⟨#[]⟩) (.string ⟨#[]⟩) (.int .i64 0) (.int .i64 0) (.slice none 0 0) (by first | omega | (simp; done) | (simp; omega)) (by go_simp) (by go_simp) (by go_simp) (by go_simp) (by go_simp) (by go_simp) (by go_simp); have g140_f0 := g140_f 0; have g140_f1 := g140_f 1; have g140_f2 := g140_f 2; have g140_f3 := g140_f 3; have g140_f4 := g140_f 4; have g140_f5 := g140_f 5; obtain ⟨⟨g141_0, g141_1, g141_2, g141_3⟩, g141_f, g141_l⟩ := keep4 hb14 (w4.heap.size) (by first | omega | (simp; done) | (simp; omega)) (.int .i64 (t.kind : Nat)) (.string ⟨t.text.toArray⟩) (.int .i64 (t.val : Nat)) (.int .i64 (t.pos : Nat)) (by first | omega | (simp; done) | (simp; omega)) (by go_simp) (by go_simp) (by go_simp) (by go_simp) (by go_simp); have g141_f0 := g141_f 0; have g141_f1 := g141_f 1; have g141_f2 := g141_f 2; have g141_f3 := g141_f 3) | (go_at_call 169; refine (HKU.out _ _ _ _ (HS12.out.below (by repeat (first | with_reducible exact Below.refl _ _ | with_reducible refine Below.alloc ?_ (by first | omega | (simp; done) | (simp; omega)) _ | with_reducible refine Below.drew ?_ | with_reducible refine Below.setCell ?_ (by first | (dsimp only; omega) | (simp; omega)) _ ))) HO.out HG12.out).mono ?_; rintro e w13 ⟨hb13, ⟨v13, x13, r13, rfl, hx13, hs, hG⟩ | ⟨c, p, rfl, hG⟩⟩; rotate_left; (exact ⟨rfl, (by repeat (first | with_reducible exact But.refl _ _ | with_reducible refine But.alloc ?_ _ | with_reducible refine But.drew ?_ | with_reducible refine But.setCell ?_ (by first | (left; dsimp only; omega) | (left; simp; omega)) _ | with_reducible refine But.trans ?_ (by assumption) | with_reducible refine But.below ?_ (by assumption))), Or.inr ⟨c, p, rfl, hG⟩⟩); obtain ⟨nn13, tx13, ox13, a13, ln13, cp13, rfl, htx13⟩ := hx13.form2; have HX13 := Hid.intro hx13; have HT13 := Hid.intro htx13; have HS13 := Hid.intro hs; have HG13 := Hid.intro hG; clear hx13 hs htx13 hG; have l13 := hb13.size; (try simp at l13); obtain ⟨⟨g130_0, g130_1, g130_2, g130_3, g130_4, g130_5⟩, g130_f, g130_l⟩ := keep6 hb13 (w.heap.size) (by first | omega | (simp; done) | (simp; omega)) (.int .i64 0) (.string ⟨#[]⟩) (.string ⟨#[]⟩) (.int .i64 0) (.int .i64 0) (.slice none 0 0) (by first | omega | (simp; done) | (simp; omega)) (by go_simp) (by go_simp) (by go_simp) (by go_simp) (by go_simp) (by go_simp) (by go_simp); have g130_f0 := g130_f 0; have g130_f1 := g130_f 1; have g130_f2 := g130_f 2; have g130_f3 := g130_f 3; have g130_f4 := g130_f 4; have g130_f5 := g130_f 5; obtain ⟨⟨g131_0, g131_1, g131_2, g131_3⟩, g131_f, g131_l⟩ := keep4 hb13 (w4.heap.size) (by first | omega | (simp; done) | (simp; omega)) (.int .i64 (t.kind : Nat)) (.string ⟨t.text.toArray⟩) (.int .i64 (t.val : Nat)) (.int .i64 (t.pos : Nat)) (by first | omega | (simp; done) | (simp; omega)) (by go_simp) (by go_simp) (by go_simp) (by go_simp) (by go_simp); have g131_f0 := g131_f 0; have g131_f1 := g131_f 1; have g131_f2 := g131_f 2; have g131_f3 := g131_f 3) | (go_at_call 103; refine (name_step _ (HS4.out.below (by repeat (first | with_reducible exact Below.refl _ _ | with_reducible refine Below.alloc ?_ (by first | omega | (simp; done) | (simp; omega)) _ | with_reducible refine Below.drew ?_ | with_reducible refine Below.setCell ?_ (by first | (dsimp only; omega) | (simp; omega)) _ ))) HG2.out).mono ?_; rintro e w12 ⟨hb12, ⟨t12, r12, rfl, hs, hG⟩ | ⟨c, p, rfl, hG⟩⟩; rotate_left; (exact ⟨rfl, (by repeat (first | with_reducible exact But.refl _ _ | with_reducible refine But.alloc ?_ _ | with_reducible refine But.drew ?_ | with_reducible refine But.setCell ?_ (by first | (left; dsimp only; omega) | (left; simp; omega)) _ | with_reducible refine But.trans ?_ (by assumption) | with_reducible refine But.below ?_ (by assumption))), Or.inr ⟨c, p, rfl, hG⟩⟩); have HS12 := Hid.intro hs; have HG12 := Hid.intro hG; clear hs hG; have l12 := hb12.size; (try simp at l12); obtain ⟨⟨g120_0, g120_1, g120_2, g120_3, g120_4, g120_5⟩, g120_f, g120_l⟩ := keep6 hb12 (w.heap.size) (by first | omega | (simp; done) | (simp; omega)) (.int .i64 0) (.string ⟨#[]⟩) (.string ⟨#[]⟩) (.int .i64 0) (.int .i64 0) (.slice none 0 0) (by first | omega | (simp; done) | (simp; omega)) (by go_simp) (by go_simp) (by go_simp) (by go_simp) (by go_simp) (by go_simp) (by go_simp); have g120_f0 := g120_f 0; have g120_f1 := g120_f 1; have g120_f2 := g120_f 2; have g120_f3 := g120_f 3; have g120_f4 := g120_f 4; have g120_f5 := g120_f 5; obtain ⟨⟨g121_0, g121_1, g121_2, g121_3⟩, g121_f, g121_l⟩ := keep4 hb12 (w4.heap.size) (by first | omega | (simp; done) | (simp; omega)) (.int .i64 (t.kind : Nat)) (.string ⟨t.text.toArray⟩) (.int .i64 (t.val : Nat)) (.int .i64 (t.pos : Nat)) (by first | omega | (simp; done) | (simp; omega)) (by go_simp) (by go_simp) (by go_simp) (by go_simp) (by go_simp); have g121_f0 := g121_f 0; have g121_f1 := g121_f 1; have g121_f2 := g121_f 2; have g121_f3 := g121_f 3))
      simp only [Exit.then]
      go_wp2_with fail
      refine bodyPost_ret (v := .agg #[.int .i64 16, .string ⟨(t12.text).toArray⟩, .string ⟨#[]⟩, .int .i64 0, .int .i64 (t.pos : Nat), .slice (some ⟨w14.heap.size, 0, none⟩) 2 2]) (by simp [results, Tryz.results169, go_sem, *]) rfl ⟨(by repeat (first | with_reducible exact But.refl _ _ | with_reducible refine But.alloc ?_ _ | with_reducible refine But.drew ?_ | with_reducible refine But.setCell ?_ (by first | (left; dsimp only; omega) | (left; simp; omega)) _ | with_reducible refine But.trans ?_ (by assumption) | with_reducible refine But.below ?_ (by assumption))), Or.inl ⟨_, _, _, rfl, ?_, (HS14.out.below (by repeat (first | with_reducible exact Below.refl _ _ | with_reducible refine Below.alloc ?_ (by first | omega | (simp; done) | (simp; omega)) _ | with_reducible refine Below.drew ?_ | with_reducible refine Below.setCell ?_ (by first | (dsimp only; omega) | (simp; omega)) _ ))), HG14.out.symm⟩⟩
      refine ex_two (k := 16) (t := t12.text) (o := []) (n := 0) (p := t.pos) (u1 := .agg #[.int .i64 (x13.kind : Int), .string tx13, .string ox13, .int .i64 nn13, .int .i64 (x13.pl : Int), .slice a13 ln13 cp13]) (u2 := .agg #[.int .i64 (x14.kind : Int), .string tx14, .string ox14, .int .i64 nn14, .int .i64 (x14.pl : Int), .slice a14 ln14 cp14]) (by first | omega | (simp; done) | (simp; omega)) (by first | omega | (simp; done) | (simp; omega)) ?_ ?_ ((HX13.out.keep (by repeat (first | with_reducible exact Kept.refl _ _ | with_reducible refine Kept.alloc ?_ _ | with_reducible refine Kept.drew ?_ | with_reducible refine Kept.setCell ?_ (by first | (left; dsimp only; omega) | (right; dsimp only; omega) | (left; simp; omega) | (right; simp; omega)) _ | with_reducible refine Kept.but ?_ (by assumption) (by first | omega | (simp; omega)) | with_reducible refine Kept.below ?_ (by assumption)))).low (by first | omega | (simp; done) | (simp; omega))) ((HX14.out.keep (by repeat (first | with_reducible exact Kept.refl _ _ | with_reducible refine Kept.alloc ?_ _ | with_reducible refine Kept.drew ?_ | with_reducible refine Kept.setCell ?_ (by first | (left; dsimp only; omega) | (right; dsimp only; omega) | (left; simp; omega) | (right; simp; omega)) _ | with_reducible refine Kept.but ?_ (by assumption) (by first | omega | (simp; omega)) | with_reducible refine Kept.below ?_ (by assumption)))).low (by first | omega | (simp; done) | (simp; omega)))
      all_goals
        refine six ?_ ?_ ?_ ?_ ?_ ?_
        all_goals first | (go_simp; done) | (go_simp; rfl)
    cases c6 : (t.text == [110, 111, 110, 101])
    rotate_left
    · have HG2 : Hid (runC en (P en f) (unitT t) r = O) := HG1
      unfold unitT at HG2
      rw [if_neg (fun e => by rw [e] at c0; cases c0), if_neg (fun e => by rw [e] at c1; cases c1), if_neg (fun e => by rw [e] at c2; cases c2), if_neg (fun e => by rw [e] at c3; cases c3), if_neg (fun e => by rw [e] at c4; cases c4), if_neg (fun e => by rw [e] at c5; cases c5), if_pos (eq_of_beq c6)] at HG2
      go_wp2
      refine bodyPost_ret (v := .agg #[.int .i64 18, .string ⟨#[]⟩, .string ⟨#[]⟩, .int .i64 0, .int .i64 (t.pos : Nat), .slice none 0 0]) (by simp [results, Tryz.results169, go_sem, *]) rfl ⟨(by repeat (first | with_reducible exact But.refl _ _ | with_reducible refine But.alloc ?_ _ | with_reducible refine But.drew ?_ | with_reducible refine But.setCell ?_ (by first | (left; dsimp only; omega) | (left; simp; omega)) _ | with_reducible refine But.trans ?_ (by assumption) | with_reducible refine But.below ?_ (by assumption))), Or.inl ⟨_, _, _, rfl, ?_, (HS4.out.below (by repeat (first | with_reducible exact Below.refl _ _ | with_reducible refine Below.alloc ?_ (by first | omega | (simp; done) | (simp; omega)) _ | with_reducible refine Below.drew ?_ | with_reducible refine Below.setCell ?_ (by first | (dsimp only; omega) | (simp; omega)) _ ))), HG2.out.symm⟩⟩
      exact ExV.leaf 18 [] [] 0 (t.pos)
    cases c7 : (t.text == [116, 114, 117, 101])
    rotate_left
    · have HG2 : Hid (runC en (P en f) (unitT t) r = O) := HG1
      unfold unitT at HG2
      rw [if_neg (fun e => by rw [e] at c0; cases c0), if_neg (fun e => by rw [e] at c1; cases c1), if_neg (fun e => by rw [e] at c2; cases c2), if_neg (fun e => by rw [e] at c3; cases c3), if_neg (fun e => by rw [e] at c4; cases c4), if_neg (fun e => by rw [e] at c5; cases c5), if_neg (fun e => by rw [e] at c6; cases c6), if_pos (eq_of_beq c7)] at HG2
      go_wp2
      refine bodyPost_ret (v := .agg #[.int .i64 2, .string ⟨#[]⟩, .string ⟨#[]⟩, .int .i64 1, .int .i64 (t.pos : Nat), .slice none 0 0]) (by simp [results, Tryz.results169, go_sem, *]) rfl ⟨(by repeat (first | with_reducible exact But.refl _ _ | with_reducible refine But.alloc ?_ _ | with_reducible refine But.drew ?_ | with_reducible refine But.setCell ?_ (by first | (left; dsimp only; omega) | (left; simp; omega)) _ | with_reducible refine But.trans ?_ (by assumption) | with_reducible refine But.below ?_ (by assumption))), Or.inl ⟨_, _, _, rfl, ?_, (HS4.out.below (by repeat (first | with_reducible exact Below.refl _ _ | with_reducible refine Below.alloc ?_ (by first | omega | (simp; done) | (simp; omega)) _ | with_reducible refine Below.drew ?_ | with_reducible refine Below.setCell ?_ (by first | (dsimp only; omega) | (simp; omega)) _ ))), HG2.out.symm⟩⟩
      exact ExV.leaf 2 [] [] 1 (t.pos)
    cases c8 : (t.text == [102, 97, 108, 115, 101])
    rotate_left
    · have HG2 : Hid (runC en (P en f) (unitT t) r = O) := HG1
      unfold unitT at HG2
      rw [if_neg (fun e => by rw [e] at c0; cases c0), if_neg (fun e => by rw [e] at c1; cases c1), if_neg (fun e => by rw [e] at c2; cases c2), if_neg (fun e => by rw [e] at c3; cases c3), if_neg (fun e => by rw [e] at c4; cases c4), if_neg (fun e => by rw [e] at c5; cases c5), if_neg (fun e => by rw [e] at c6; cases c6), if_neg (fun e => by rw [e] at c7; cases c7), if_pos (eq_of_beq c8)] at HG2
      go_wp2
      refine bodyPost_ret (v := .agg #[.int .i64 2, .string ⟨#[]⟩, .string ⟨#[]⟩, .int .i64 0, .int .i64 (t.pos : Nat), .slice none 0 0]) (by simp [results, Tryz.results169, go_sem, *]) rfl ⟨(by repeat (first | with_reducible exact But.refl _ _ | with_reducible refine But.alloc ?_ _ | with_reducible refine But.drew ?_ | with_reducible refine But.setCell ?_ (by first | (left; dsimp only; omega) | (left; simp; omega)) _ | with_reducible refine But.trans ?_ (by assumption) | with_reducible refine But.below ?_ (by assumption))), Or.inl ⟨_, _, _, rfl, ?_, (HS4.out.below (by repeat (first | with_reducible exact Below.refl _ _ | with_reducible refine Below.alloc ?_ (by first | omega | (simp; done) | (simp; omega)) _ | with_reducible refine Below.drew ?_ | with_reducible refine Below.setCell ?_ (by first | (dsimp only; omega) | (simp; omega)) _ ))), HG2.out.symm⟩⟩
      exact ExV.leaf 2 [] [] 0 (t.pos)
    cases c9 : (t.text == [40])
    rotate_left
    · have HG2 : Hid (runC en (P en f) (unitT t) r = O) := HG1
      unfold unitT at HG2
      rw [if_neg (fun e => by rw [e] at c0; cases c0), if_neg (fun e => by rw [e] at c1; cases c1), if_neg (fun e => by rw [e] at c2; cases c2), if_neg (fun e => by rw [e] at c3; cases c3), if_neg (fun e => by rw [e] at c4; cases c4), if_neg (fun e => by rw [e] at c5; cases c5), if_neg (fun e => by rw [e] at c6; cases c6), if_neg (fun e => by rw [e] at c7; cases c7), if_neg (fun e => by rw [e] at c8; cases c8), if_pos (eq_of_beq c9)] at HG2
      go_wp2_with fail
      refine (HKI.out t.pos _ _ _ (HS4.out.below (by repeat (first | with_reducible exact Below.refl _ _ | with_reducible refine Below.alloc ?_ (by first | omega | (simp; done) | (simp; omega)) _ | with_reducible refine Below.drew ?_ | with_reducible refine Below.setCell ?_ (by first | (dsimp only; omega) | (simp; omega)) _ ))) HO.out HG2.out).mono ?_
      rintro e w15 ⟨hb15, ⟨v15, x15, r15, rfl, hx15, hs, hG⟩ | ⟨c, p, rfl, hG⟩⟩
      rotate_left
      · exact ⟨rfl, (by repeat (first | with_reducible exact But.refl _ _ | with_reducible refine But.alloc ?_ _ | with_reducible refine But.drew ?_ | with_reducible refine But.setCell ?_ (by first | (left; dsimp only; omega) | (left; simp; omega)) _ | with_reducible refine But.trans ?_ (by assumption) | with_reducible refine But.below ?_ (by assumption))), Or.inr ⟨c, p, rfl, hG⟩⟩
      obtain ⟨nn15, tx15, ox15, a15, ln15, cp15, rfl, htx15⟩ := hx15.form2
      have HX15 := Hid.intro hx15
      clear hx15 htx15
      have l15 := hb15.size
      (try simp at l15)
      obtain ⟨⟨q4_0, q4_1, q4_2, q4_3, q4_4, q4_5⟩, q4_f, q4_l⟩ := keep6 hb15 (w.heap.size) (by first | omega | (simp; done) | (simp; omega)) (.int .i64 0) (.string ⟨#[]⟩) (.string ⟨#[]⟩) (.int .i64 0) (.int .i64 0) (.slice none 0 0) (by first | omega | (simp; done) | (simp; omega)) (by go_simp) (by go_simp) (by go_simp) (by go_simp) (by go_simp) (by go_simp) (by go_simp)
      have q4_f0 := q4_f 0
      have q4_f1 := q4_f 1
      have q4_f2 := q4_f 2
      have q4_f3 := q4_f 3
      have q4_f4 := q4_f 4
      have q4_f5 := q4_f 5
      obtain ⟨⟨q5_0, q5_1, q5_2, q5_3⟩, q5_f, q5_l⟩ := keep4 hb15 (w4.heap.size) (by first | omega | (simp; done) | (simp; omega)) (.int .i64 (t.kind : Nat)) (.string ⟨t.text.toArray⟩) (.int .i64 (t.val : Nat)) (.int .i64 (t.pos : Nat)) (by first | omega | (simp; done) | (simp; omega)) (by go_simp) (by go_simp) (by go_simp) (by go_simp) (by go_simp)
      have q5_f0 := q5_f 0
      have q5_f1 := q5_f 1
      have q5_f2 := q5_f 2
      have q5_f3 := q5_f 3
      clear q3_0 q3_1 q3_2 q3_3 q3_4 q3_5 q3_f0 q3_f1 q3_f2 q3_f3 q3_f4 q3_f5 q3_f
      have HG15 := Hid.intro hG
      have HS15 := Hid.intro hs
      clear hG hs
      go_wp2
      refine bodyPost_ret (v := .agg #[.int .i64 (x15.kind : Int), .string tx15, .string ox15, .int .i64 nn15, .int .i64 (x15.pl : Int), .slice a15 ln15 cp15]) (by simp [results, Tryz.results169, go_sem, *]) rfl ⟨(by repeat (first | with_reducible exact But.refl _ _ | with_reducible refine But.alloc ?_ _ | with_reducible refine But.drew ?_ | with_reducible refine But.setCell ?_ (by first | (left; dsimp only; omega) | (left; simp; omega)) _ | with_reducible refine But.trans ?_ (by assumption) | with_reducible refine But.below ?_ (by assumption))), Or.inl ⟨_, _, _, rfl, ((HX15.out.keep (by repeat (first | with_reducible exact Kept.refl _ _ | with_reducible refine Kept.alloc ?_ _ | with_reducible refine Kept.drew ?_ | with_reducible refine Kept.setCell ?_ (by first | (left; dsimp only; omega) | (right; dsimp only; omega) | (left; simp; omega) | (right; simp; omega)) _ | with_reducible refine Kept.but ?_ (by assumption) (by first | omega | (simp; omega)) | with_reducible refine Kept.below ?_ (by assumption)))).low (by first | omega | (simp; done) | (simp; omega))), (HS15.out.below (by repeat (first | with_reducible exact Below.refl _ _ | with_reducible refine Below.alloc ?_ (by first | omega | (simp; done) | (simp; omega)) _ | with_reducible refine Below.drew ?_ | with_reducible refine Below.setCell ?_ (by first | (dsimp only; omega) | (simp; omega)) _ ))), HG15.out⟩⟩
    have HG2 : Hid (runC en (P en f) (unitT t) r = O) := HG1
    unfold unitT at HG2
    rw [if_neg (fun e => by rw [e] at c0; cases c0), if_neg (fun e => by rw [e] at c1; cases c1), if_neg (fun e => by rw [e] at c2; cases c2), if_neg (fun e => by rw [e] at c3; cases c3), if_neg (fun e => by rw [e] at c4; cases c4), if_neg (fun e => by rw [e] at c5; cases c5), if_neg (fun e => by rw [e] at c6; cases c6), if_neg (fun e => by rw [e] at c7; cases c7), if_neg (fun e => by rw [e] at c8; cases c8), if_neg (fun e => by rw [e] at c9; cases c9)] at HG2
    by_cases ck : t.kind = 3
    · rw [if_pos ck] at HG2
      have ck2 : ((t.kind : Int) == 3) = true := by rw [beq_iff_eq]; omega
      clear ck
      go_wp2
      refine bodyPost_ret (v := .agg #[.int .i64 1, .string ⟨#[]⟩, .string ⟨#[]⟩, .int .i64 (t.val : Int), .int .i64 (t.pos : Nat), .slice none 0 0]) (by simp [results, Tryz.results169, go_sem, *]) rfl ⟨(by repeat (first | with_reducible exact But.refl _ _ | with_reducible refine But.alloc ?_ _ | with_reducible refine But.drew ?_ | with_reducible refine But.setCell ?_ (by first | (left; dsimp only; omega) | (left; simp; omega)) _ | with_reducible refine But.trans ?_ (by assumption) | with_reducible refine But.below ?_ (by assumption))), Or.inl ⟨_, _, _, rfl, ?_, (HS4.out.below (by repeat (first | with_reducible exact Below.refl _ _ | with_reducible refine Below.alloc ?_ (by first | omega | (simp; done) | (simp; omega)) _ | with_reducible refine Below.drew ?_ | with_reducible refine Below.setCell ?_ (by first | (dsimp only; omega) | (simp; omega)) _ ))), HG2.out.symm⟩⟩
      exact ExV.leaf 1 [] [] (t.val : Int) (t.pos)
    · rw [if_neg ck] at HG2
      have ck2 : ((t.kind : Int) == 3) = false := by rw [beq_eq_false_iff_ne]; omega
      clear ck
      go_wp2_with fail
      refine (HKN.out t _ _ _ (HS4.out.below (by repeat (first | with_reducible exact Below.refl _ _ | with_reducible refine Below.alloc ?_ (by first | omega | (simp; done) | (simp; omega)) _ | with_reducible refine Below.drew ?_ | with_reducible refine Below.setCell ?_ (by first | (dsimp only; omega) | (simp; omega)) _ ))) HO.out HG2.out).mono ?_
      rintro e w16 ⟨hb16, ⟨v16, x16, r16, rfl, hx16, hs, hG⟩ | ⟨c, p, rfl, hG⟩⟩
      rotate_left
      · exact ⟨rfl, (by repeat (first | with_reducible exact But.refl _ _ | with_reducible refine But.alloc ?_ _ | with_reducible refine But.drew ?_ | with_reducible refine But.setCell ?_ (by first | (left; dsimp only; omega) | (left; simp; omega)) _ | with_reducible refine But.trans ?_ (by assumption) | with_reducible refine But.below ?_ (by assumption))), Or.inr ⟨c, p, rfl, hG⟩⟩
      obtain ⟨nn16, tx16, ox16, a16, ln16, cp16, rfl, htx16⟩ := hx16.form2
      have HX16 := Hid.intro hx16
      clear hx16 htx16
      have l16 := hb16.size
      (try simp at l16)
      obtain ⟨⟨q6_0, q6_1, q6_2, q6_3, q6_4, q6_5⟩, q6_f, q6_l⟩ := keep6 hb16 (w.heap.size) (by first | omega | (simp; done) | (simp; omega)) (.int .i64 0) (.string ⟨#[]⟩) (.string ⟨#[]⟩) (.int .i64 0) (.int .i64 0) (.slice none 0 0) (by first | omega | (simp; done) | (simp; omega)) (by go_simp) (by go_simp) (by go_simp) (by go_simp) (by go_simp) (by go_simp) (by go_simp)
      have q6_f0 := q6_f 0
      have q6_f1 := q6_f 1
      have q6_f2 := q6_f 2
      have q6_f3 := q6_f 3
      have q6_f4 := q6_f 4
      have q6_f5 := q6_f 5
      obtain ⟨⟨q7_0, q7_1, q7_2, q7_3⟩, q7_f, q7_l⟩ := keep4 hb16 (w4.heap.size) (by first | omega | (simp; done) | (simp; omega)) (.int .i64 (t.kind : Nat)) (.string ⟨t.text.toArray⟩) (.int .i64 (t.val : Nat)) (.int .i64 (t.pos : Nat)) (by first | omega | (simp; done) | (simp; omega)) (by go_simp) (by go_simp) (by go_simp) (by go_simp) (by go_simp)
      have q7_f0 := q7_f 0
      have q7_f1 := q7_f 1
      have q7_f2 := q7_f 2
      have q7_f3 := q7_f 3
      clear q3_0 q3_1 q3_2 q3_3 q3_4 q3_5 q3_f0 q3_f1 q3_f2 q3_f3 q3_f4 q3_f5 q3_f
      have HG16 := Hid.intro hG
      have HS16 := Hid.intro hs
      clear hG hs
      go_wp2
      refine bodyPost_ret (v := .agg #[.int .i64 (x16.kind : Int), .string tx16, .string ox16, .int .i64 nn16, .int .i64 (x16.pl : Int), .slice a16 ln16 cp16]) (by simp [results, Tryz.results169, go_sem, *]) rfl ⟨(by repeat (first | with_reducible exact But.refl _ _ | with_reducible refine But.alloc ?_ _ | with_reducible refine But.drew ?_ | with_reducible refine But.setCell ?_ (by first | (left; dsimp only; omega) | (left; simp; omega)) _ | with_reducible refine But.trans ?_ (by assumption) | with_reducible refine But.below ?_ (by assumption))), Or.inl ⟨_, _, _, rfl, ((HX16.out.keep (by repeat (first | with_reducible exact Kept.refl _ _ | with_reducible refine Kept.alloc ?_ _ | with_reducible refine Kept.drew ?_ | with_reducible refine Kept.setCell ?_ (by first | (left; dsimp only; omega) | (right; dsimp only; omega) | (left; simp; omega) | (right; simp; omega)) _ | with_reducible refine Kept.but ?_ (by assumption) (by first | omega | (simp; omega)) | with_reducible refine Kept.below ?_ (by assumption)))).low (by first | omega | (simp; done) | (simp; omega))), (HS16.out.below (by repeat (first | with_reducible exact Below.refl _ _ | with_reducible refine Below.alloc ?_ (by first | omega | (simp; done) | (simp; omega)) _ | with_reducible refine Below.drew ?_ | with_reducible refine Below.setCell ?_ (by first | (dsimp only; omega) | (simp; omega)) _ ))), HG16.out⟩⟩
end Go.Proofs.YtkljakeccfnakaaGreatDoor
