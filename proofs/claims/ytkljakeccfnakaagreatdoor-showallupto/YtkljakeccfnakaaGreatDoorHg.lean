/-
  The walk of seq.
  The walks of let, if, fun and store.
  The walks of a name, and of what stands in parentheses.
  The walks of a match and of an arm of pairs.
-/
import Derived.Test.YtkljakeccfnakaaGreatDoorHabc
namespace Go.Proofs.YtkljakeccfnakaaGreatDoor
open Go.RowKit

set_option maxHeartbeats 8000000 in
theorem seq_reads {Z R en f : Nat} (KE : Reads Z R en f 130 .expr) (KS : Reads Z R en f 107 .seq) : ReadsC Z R en f 107 seqC := by
  intro ts O w hw hO hg
  have lz : Z ≤ w.heap.size := hw.size
  have lr : R < Z := hw.rz
  have HO := Hid.intro hO
  have HW := Hid.intro hw
  have HKE := Hid.intro KE
  have HKS := Hid.intro KS
  rw [seqC, run_here, ← next_pos] at hg
  have HG0 := Hid.intro hg
  clear KE KS hw hO hg
  have F0 := fld0; have F1 := fld1; have F2 := fld2; have F3 := fld3
  go_enter Tryz.func107, Tryz.ntmps107
  go_wp2_with fail
  refine (peek_any Z R en ts _ (HW.out.below (by repeat (first | with_reducible exact Below.refl _ _ | with_reducible refine Below.alloc ?_ (by first | omega | (simp; done) | (simp; omega)) _ | with_reducible refine Below.drew ?_ | with_reducible refine Below.setCell ?_ (by first | (dsimp only; omega) | (simp; omega)) _ )))).mono ?_
  rintro e w1 ⟨rfl, hp1⟩
  have hb1 := But.of (R := R) hp1
  unfold tkV
  have l1 := hb1.size
  (try simp at l1)
  obtain ⟨⟨q1_0, q1_1, q1_2, q1_3, q1_4, q1_5⟩, q1_f, q1_l⟩ := keep6 hb1 (w.heap.size) (by first | omega | (simp; done) | (simp; omega)) (.int .i64 0) (.string ⟨#[]⟩) (.string ⟨#[]⟩) (.int .i64 0) (.int .i64 0) (.slice none 0 0) (by first | omega | (simp; done) | (simp; omega)) (by go_simp) (by go_simp) (by go_simp) (by go_simp) (by go_simp) (by go_simp) (by go_simp)
  have q1_f0 := q1_f 0
  have q1_f1 := q1_f 1
  have q1_f2 := q1_f 2
  have q1_f3 := q1_f 3
  have q1_f4 := q1_f 4
  have q1_f5 := q1_f 5
  have HS1 : Hid (St Z R en w1 ts) := Hid.intro (St.to (HW.out.below (by repeat (first | with_reducible exact Below.refl _ _ | with_reducible refine Below.alloc ?_ (by first | omega | (simp; done) | (simp; omega)) _ | with_reducible refine Below.drew ?_ | with_reducible refine Below.setCell ?_ (by first | (dsimp only; omega) | (simp; omega)) _ ))) hp1)
  clear hp1
  generalize hnt : nextT en ts = t at *
  clear hnt
  go_wp2_with fail
  refine (HKE.out _ _ _ _ (HS1.out.below (by repeat (first | with_reducible exact Below.refl _ _ | with_reducible refine Below.alloc ?_ (by first | omega | (simp; done) | (simp; omega)) _ | with_reducible refine Below.drew ?_ | with_reducible refine Below.setCell ?_ (by first | (dsimp only; omega) | (simp; omega)) _ ))) HO.out HG0.out).mono ?_
  rintro e w2 ⟨hb2, ⟨v2, x2, r2, rfl, hx2, hs, hG⟩ | ⟨c, p, rfl, hG⟩⟩
  rotate_left
  · exact ⟨rfl, (by repeat (first | with_reducible exact But.refl _ _ | with_reducible refine But.alloc ?_ _ | with_reducible refine But.drew ?_ | with_reducible refine But.setCell ?_ (by first | (left; dsimp only; omega) | (left; simp; omega)) _ | with_reducible refine But.trans ?_ (by assumption) | with_reducible refine But.below ?_ (by assumption))), Or.inr ⟨c, p, rfl, hG⟩⟩
  obtain ⟨nn2, tx2, ox2, a2, ln2, cp2, rfl, htx2⟩ := hx2.form2
  have HX2 := Hid.intro hx2
  have HT2 := Hid.intro htx2
  clear hx2 htx2
  have l2 := hb2.size
  (try simp at l2)
  obtain ⟨⟨q2_0, q2_1, q2_2, q2_3, q2_4, q2_5⟩, q2_f, q2_l⟩ := keep6 hb2 (w.heap.size) (by first | omega | (simp; done) | (simp; omega)) (.int .i64 0) (.string ⟨#[]⟩) (.string ⟨#[]⟩) (.int .i64 0) (.int .i64 0) (.slice none 0 0) (by first | omega | (simp; done) | (simp; omega)) (by go_simp) (by go_simp) (by go_simp) (by go_simp) (by go_simp) (by go_simp) (by go_simp)
  have q2_f0 := q2_f 0
  have q2_f1 := q2_f 1
  have q2_f2 := q2_f 2
  have q2_f3 := q2_f 3
  have q2_f4 := q2_f 4
  have q2_f5 := q2_f 5
  clear q1_0 q1_1 q1_2 q1_3 q1_4 q1_5 q1_f0 q1_f1 q1_f2 q1_f3 q1_f4 q1_f5 q1_f
  have HG2 := Hid.intro hG
  have HS2 := Hid.intro hs
  clear hG hs
  go_wp2_with fail
  refine (may_step ⟨#[59]⟩ (by decide) _ (HS2.out.below (by repeat (first | with_reducible exact Below.refl _ _ | with_reducible refine Below.alloc ?_ (by first | omega | (simp; done) | (simp; omega)) _ | with_reducible refine Below.drew ?_ | with_reducible refine Below.setCell ?_ (by first | (dsimp only; omega) | (simp; omega)) _ ))) HG2.out).mono ?_
  rintro e w3 ⟨hb3, ⟨rfl, r3, hs, hG⟩ | ⟨rfl, hs, hG⟩⟩
  rotate_left
  · skip
    have l3 := hb3.size
    (try simp at l3)
    obtain ⟨⟨q3_0, q3_1, q3_2, q3_3, q3_4, q3_5⟩, q3_f, q3_l⟩ := keep6 hb3 (w.heap.size) (by first | omega | (simp; done) | (simp; omega)) (.int .i64 0) (.string ⟨#[]⟩) (.string ⟨#[]⟩) (.int .i64 0) (.int .i64 0) (.slice none 0 0) (by first | omega | (simp; done) | (simp; omega)) (by go_simp) (by go_simp) (by go_simp) (by go_simp) (by go_simp) (by go_simp) (by go_simp)
    have q3_f0 := q3_f 0
    have q3_f1 := q3_f 1
    have q3_f2 := q3_f 2
    have q3_f3 := q3_f 3
    have q3_f4 := q3_f 4
    have q3_f5 := q3_f 5
    obtain ⟨⟨q4_0, q4_1, q4_2, q4_3, q4_4, q4_5⟩, q4_f, q4_l⟩ := keep6 hb3 (w2.heap.size) (by first | omega | (simp; done) | (simp; omega)) (.int .i64 (x2.kind : Int)) (.string tx2) (.string ox2) (.int .i64 nn2) (.int .i64 (x2.pl : Int)) (.slice a2 ln2 cp2) (by first | omega | (simp; done) | (simp; omega)) (by go_simp) (by go_simp) (by go_simp) (by go_simp) (by go_simp) (by go_simp) (by go_simp)
    have q4_f0 := q4_f 0
    have q4_f1 := q4_f 1
    have q4_f2 := q4_f 2
    have q4_f3 := q4_f 3
    have q4_f4 := q4_f 4
    have q4_f5 := q4_f 5
    clear q2_0 q2_1 q2_2 q2_3 q2_4 q2_5 q2_f0 q2_f1 q2_f2 q2_f3 q2_f4 q2_f5 q2_f
    have HG3 := Hid.intro hG
    have HS3 := Hid.intro hs
    clear hG hs
    go_wp2
    refine bodyPost_ret (v := .agg #[.int .i64 (x2.kind : Int), .string tx2, .string ox2, .int .i64 nn2, .int .i64 (x2.pl : Int), .slice a2 ln2 cp2]) (by simp [results, Tryz.results107, go_sem, *]) rfl ⟨(by repeat (first | with_reducible exact But.refl _ _ | with_reducible refine But.alloc ?_ _ | with_reducible refine But.drew ?_ | with_reducible refine But.setCell ?_ (by first | (left; dsimp only; omega) | (left; simp; omega)) _ | with_reducible refine But.trans ?_ (by assumption) | with_reducible refine But.below ?_ (by assumption))), Or.inl ⟨_, x2, _, rfl, ((HX2.out.keep (by repeat (first | with_reducible exact Kept.refl _ _ | with_reducible refine Kept.alloc ?_ _ | with_reducible refine Kept.drew ?_ | with_reducible refine Kept.setCell ?_ (by first | (left; dsimp only; omega) | (right; dsimp only; omega) | (left; simp; omega) | (right; simp; omega)) _ | with_reducible refine Kept.but ?_ (by assumption) (by first | omega | (simp; omega)) | with_reducible refine Kept.below ?_ (by assumption)))).low (by first | omega | (simp; done) | (simp; omega))), (HS3.out.below (by repeat (first | with_reducible exact Below.refl _ _ | with_reducible refine Below.alloc ?_ (by first | omega | (simp; done) | (simp; omega)) _ | with_reducible refine Below.drew ?_ | with_reducible refine Below.setCell ?_ (by first | (dsimp only; omega) | (simp; omega)) _ ))), HG3.out.symm⟩⟩
  · skip
    have l3 := hb3.size
    (try simp at l3)
    obtain ⟨⟨q5_0, q5_1, q5_2, q5_3, q5_4, q5_5⟩, q5_f, q5_l⟩ := keep6 hb3 (w.heap.size) (by first | omega | (simp; done) | (simp; omega)) (.int .i64 0) (.string ⟨#[]⟩) (.string ⟨#[]⟩) (.int .i64 0) (.int .i64 0) (.slice none 0 0) (by first | omega | (simp; done) | (simp; omega)) (by go_simp) (by go_simp) (by go_simp) (by go_simp) (by go_simp) (by go_simp) (by go_simp)
    have q5_f0 := q5_f 0
    have q5_f1 := q5_f 1
    have q5_f2 := q5_f 2
    have q5_f3 := q5_f 3
    have q5_f4 := q5_f 4
    have q5_f5 := q5_f 5
    obtain ⟨⟨q6_0, q6_1, q6_2, q6_3, q6_4, q6_5⟩, q6_f, q6_l⟩ := keep6 hb3 (w2.heap.size) (by first | omega | (simp; done) | (simp; omega)) (.int .i64 (x2.kind : Int)) (.string tx2) (.string ox2) (.int .i64 nn2) (.int .i64 (x2.pl : Int)) (.slice a2 ln2 cp2) (by first | omega | (simp; done) | (simp; omega)) (by go_simp) (by go_simp) (by go_simp) (by go_simp) (by go_simp) (by go_simp) (by go_simp)
    have q6_f0 := q6_f 0
    have q6_f1 := q6_f 1
    have q6_f2 := q6_f 2
    have q6_f3 := q6_f 3
    have q6_f4 := q6_f 4
    have q6_f5 := q6_f 5
    clear q2_0 q2_1 q2_2 q2_3 q2_4 q2_5 q2_f0 q2_f1 q2_f2 q2_f3 q2_f4 q2_f5 q2_f
    have HG3 := Hid.intro hG
    have HS3 := Hid.intro hs
    clear hG hs
    go_wp2_with fail
    have d1 : w.heap.size ≠ w2.heap.size := by omega
    have d2 : w2.heap.size ≠ w.heap.size := by omega
    go_region_held (fun w' => w'.cell? ⟨w2.heap.size, 0, none⟩ = some (.int .i64 (x2.kind : Int)) ∧ w'.cell? ⟨w2.heap.size, 1, none⟩ = some (.string tx2) ∧ w'.cell? ⟨w2.heap.size, 2, none⟩ = some (.string ox2) ∧ w'.cell? ⟨w2.heap.size, 3, none⟩ = some (.int .i64 nn2) ∧ w'.cell? ⟨w2.heap.size, 4, none⟩ = some (.int .i64 (x2.pl : Int)) ∧ w'.cell? ⟨w2.heap.size, 5, none⟩ = some (.slice a2 ln2 cp2)) (go_keep)
      (first | (go_at_call 107; refine (HKS.out _ _ _ _ (HS3.out.below (by repeat (first | with_reducible exact Below.refl _ _ | with_reducible refine Below.alloc ?_ (by first | omega | (simp; done) | (simp; omega)) _ | with_reducible refine Below.drew ?_ | with_reducible refine Below.setCell ?_ (by first | (dsimp only; omega) | (simp; omega)) _ ))) HO.out HG3.out).mono ?_; rintro e w4 ⟨hb4, ⟨v4, x4, r4, rfl, hx4, hs, hG⟩ | ⟨c, p, rfl, hG⟩⟩; rotate_left; (exact ⟨rfl, (by repeat (first | with_reducible exact But.refl _ _ | with_reducible refine But.alloc ?_ _ | with_reducible refine But.drew ?_ | with_reducible refine But.setCell ?_ (by first | (left; dsimp only; omega) | (left; simp; omega)) _ | with_reducible refine But.trans ?_ (by assumption) | with_reducible refine But.below ?_ (by assumption))), Or.inr ⟨c, p, rfl, hG⟩⟩); obtain ⟨nn4, tx4, ox4, a4, ln4, cp4, rfl, htx4⟩ := hx4.form2; have HX4 := Hid.intro hx4; have HS4 := Hid.intro hs; have HG4 := Hid.intro hG; clear hx4 hs htx4 hG; have l4 := hb4.size; (try simp at l4); obtain ⟨⟨rr0, rr1, rr2, rr3, rr4, rr5⟩, rrf, rrl⟩ := keep6 hb4 (w.heap.size) (by first | omega | (simp; done) | (simp; omega)) (.int .i64 0) (.string ⟨#[]⟩) (.string ⟨#[]⟩) (.int .i64 0) (.int .i64 0) (.slice none 0 0) (by first | omega | (simp; done) | (simp; omega)) (by go_simp) (by go_simp) (by go_simp) (by go_simp) (by go_simp) (by go_simp) (by go_simp); have rrf0 := rrf 0; have rrf1 := rrf 1; have rrf2 := rrf 2; have rrf3 := rrf 3; have rrf4 := rrf 4; have rrf5 := rrf 5; obtain ⟨⟨ee0, ee1, ee2, ee3, ee4, ee5⟩, eef, eel⟩ := keep6 hb4 (w2.heap.size) (by first | omega | (simp; done) | (simp; omega)) (.int .i64 (x2.kind : Int)) (.string tx2) (.string ox2) (.int .i64 nn2) (.int .i64 (x2.pl : Int)) (.slice a2 ln2 cp2) (by first | omega | (simp; done) | (simp; omega)) (by go_simp) (by go_simp) (by go_simp) (by go_simp) (by go_simp) (by go_simp) (by go_simp); have eef0 := eef 0; have eef1 := eef 1; have eef2 := eef 2; have eef3 := eef 3; have eef4 := eef 4; have eef5 := eef 5))
    simp only [Exit.then]
    go_wp2_with fail
    refine bodyPost_ret (v := .agg #[.int .i64 9, .string ⟨#[]⟩, .string ⟨#[]⟩, .int .i64 0, .int .i64 t.pos, .slice (some ⟨w4.heap.size, 0, none⟩) 2 2]) (by simp [results, Tryz.results107, go_sem, *]) rfl ⟨(by repeat (first | with_reducible exact But.refl _ _ | with_reducible refine But.alloc ?_ _ | with_reducible refine But.drew ?_ | with_reducible refine But.setCell ?_ (by first | (left; dsimp only; omega) | (left; simp; omega)) _ | with_reducible refine But.trans ?_ (by assumption) | with_reducible refine But.below ?_ (by assumption))), Or.inl ⟨_, _, _, rfl, ?_, (HS4.out.below (by repeat (first | with_reducible exact Below.refl _ _ | with_reducible refine Below.alloc ?_ (by first | omega | (simp; done) | (simp; omega)) _ | with_reducible refine Below.drew ?_ | with_reducible refine Below.setCell ?_ (by first | (dsimp only; omega) | (simp; omega)) _ ))), HG4.out.symm⟩⟩
    refine ex_two (k := 9) (t := []) (o := []) (n := 0) (p := t.pos) (u1 := .agg #[.int .i64 (x2.kind : Int), .string tx2, .string ox2, .int .i64 nn2, .int .i64 (x2.pl : Int), .slice a2 ln2 cp2]) (u2 := .agg #[.int .i64 (x4.kind : Int), .string tx4, .string ox4, .int .i64 nn4, .int .i64 (x4.pl : Int), .slice a4 ln4 cp4]) (by first | omega | (simp; done) | (simp; omega)) (by first | omega | (simp; done) | (simp; omega)) ?_ ?_ ((HX2.out.keep (by repeat (first | with_reducible exact Kept.refl _ _ | with_reducible refine Kept.alloc ?_ _ | with_reducible refine Kept.drew ?_ | with_reducible refine Kept.setCell ?_ (by first | (left; dsimp only; omega) | (right; dsimp only; omega) | (left; simp; omega) | (right; simp; omega)) _ | with_reducible refine Kept.but ?_ (by assumption) (by first | omega | (simp; omega)) | with_reducible refine Kept.below ?_ (by assumption)))).low (by first | omega | (simp; done) | (simp; omega))) ((HX4.out.keep (by repeat (first | with_reducible exact Kept.refl _ _ | with_reducible refine Kept.alloc ?_ _ | with_reducible refine Kept.drew ?_ | with_reducible refine Kept.setCell ?_ (by first | (left; dsimp only; omega) | (right; dsimp only; omega) | (left; simp; omega) | (right; simp; omega)) _ | with_reducible refine Kept.but ?_ (by assumption) (by first | omega | (simp; omega)) | with_reducible refine Kept.below ?_ (by assumption)))).low (by first | omega | (simp; done) | (simp; omega)))
    all_goals
      refine six ?_ ?_ ?_ ?_ ?_ ?_
      all_goals first | (go_simp; done) | (go_simp; rfl)
end Go.Proofs.YtkljakeccfnakaaGreatDoor

namespace Go.Proofs.YtkljakeccfnakaaGreatDoor
open Go.RowKit

set_option maxHeartbeats 8000000 in
theorem let_reads {Z R en f : Nat} (KE : Reads Z R en f 130 .expr) (KS : Reads Z R en f 107 .seq) : ReadsC Z R en f 144 letC := by
  intro ts O w hw hO hg
  have lz : Z ≤ w.heap.size := hw.size
  have lr : R < Z := hw.rz
  have HO := Hid.intro hO
  have HW := Hid.intro hw
  have HKE := Hid.intro KE
  have HKS := Hid.intro KS
  rw [letC] at hg
  have HG0 := Hid.intro hg
  clear KE KS hw hO hg
  have F0 := fld0; have F1 := fld1; have F2 := fld2; have F3 := fld3
  go_enter Tryz.func144, Tryz.ntmps144
  go_wp2_with fail
  refine (must_step ⟨#[108, 101, 116]⟩ (by decide) _ (HW.out.below (by repeat (first | with_reducible exact Below.refl _ _ | with_reducible refine Below.alloc ?_ (by first | omega | (simp; done) | (simp; omega)) _ | with_reducible refine Below.drew ?_ | with_reducible refine Below.setCell ?_ (by first | (dsimp only; omega) | (simp; omega)) _ ))) HG0.out).mono ?_
  rintro e w1 ⟨hb1, ⟨t1, r1, rfl, hs, hG⟩ | ⟨c, p, rfl, hG⟩⟩
  rotate_left
  · exact ⟨rfl, (by repeat (first | with_reducible exact But.refl _ _ | with_reducible refine But.alloc ?_ _ | with_reducible refine But.drew ?_ | with_reducible refine But.setCell ?_ (by first | (left; dsimp only; omega) | (left; simp; omega)) _ | with_reducible refine But.trans ?_ (by assumption) | with_reducible refine But.below ?_ (by assumption))), Or.inr ⟨c, p, rfl, hG⟩⟩
  have l1 := hb1.size
  (try simp at l1)
  obtain ⟨⟨q1_0, q1_1, q1_2, q1_3, q1_4, q1_5⟩, q1_f, q1_l⟩ := keep6 hb1 (w.heap.size) (by first | omega | (simp; done) | (simp; omega)) (.int .i64 0) (.string ⟨#[]⟩) (.string ⟨#[]⟩) (.int .i64 0) (.int .i64 0) (.slice none 0 0) (by first | omega | (simp; done) | (simp; omega)) (by go_simp) (by go_simp) (by go_simp) (by go_simp) (by go_simp) (by go_simp) (by go_simp)
  have q1_f0 := q1_f 0
  have q1_f1 := q1_f 1
  have q1_f2 := q1_f 2
  have q1_f3 := q1_f 3
  have q1_f4 := q1_f 4
  have q1_f5 := q1_f 5
  have HG1 := Hid.intro hG
  have HS1 := Hid.intro hs
  clear hG hs
  go_wp2_with fail
  refine (name_step _ (HS1.out.below (by repeat (first | with_reducible exact Below.refl _ _ | with_reducible refine Below.alloc ?_ (by first | omega | (simp; done) | (simp; omega)) _ | with_reducible refine Below.drew ?_ | with_reducible refine Below.setCell ?_ (by first | (dsimp only; omega) | (simp; omega)) _ ))) HG1.out).mono ?_
  rintro e w2 ⟨hb2, ⟨t2, r2, rfl, hs, hG⟩ | ⟨c, p, rfl, hG⟩⟩
  rotate_left
  · exact ⟨rfl, (by repeat (first | with_reducible exact But.refl _ _ | with_reducible refine But.alloc ?_ _ | with_reducible refine But.drew ?_ | with_reducible refine But.setCell ?_ (by first | (left; dsimp only; omega) | (left; simp; omega)) _ | with_reducible refine But.trans ?_ (by assumption) | with_reducible refine But.below ?_ (by assumption))), Or.inr ⟨c, p, rfl, hG⟩⟩
  have l2 := hb2.size
  (try simp at l2)
  obtain ⟨⟨q2_0, q2_1, q2_2, q2_3, q2_4, q2_5⟩, q2_f, q2_l⟩ := keep6 hb2 (w.heap.size) (by first | omega | (simp; done) | (simp; omega)) (.int .i64 0) (.string ⟨#[]⟩) (.string ⟨#[]⟩) (.int .i64 0) (.int .i64 0) (.slice none 0 0) (by first | omega | (simp; done) | (simp; omega)) (by go_simp) (by go_simp) (by go_simp) (by go_simp) (by go_simp) (by go_simp) (by go_simp)
  have q2_f0 := q2_f 0
  have q2_f1 := q2_f 1
  have q2_f2 := q2_f 2
  have q2_f3 := q2_f 3
  have q2_f4 := q2_f 4
  have q2_f5 := q2_f 5
  clear q1_0 q1_1 q1_2 q1_3 q1_4 q1_5 q1_f0 q1_f1 q1_f2 q1_f3 q1_f4 q1_f5 q1_f
  have HG2 := Hid.intro hG
  have HS2 := Hid.intro hs
  clear hG hs
  go_wp2_with fail
  refine (must_step ⟨#[61]⟩ (by decide) _ (HS2.out.below (by repeat (first | with_reducible exact Below.refl _ _ | with_reducible refine Below.alloc ?_ (by first | omega | (simp; done) | (simp; omega)) _ | with_reducible refine Below.drew ?_ | with_reducible refine Below.setCell ?_ (by first | (dsimp only; omega) | (simp; omega)) _ ))) HG2.out).mono ?_
  rintro e w3 ⟨hb3, ⟨t3, r3, rfl, hs, hG⟩ | ⟨c, p, rfl, hG⟩⟩
  rotate_left
  · exact ⟨rfl, (by repeat (first | with_reducible exact But.refl _ _ | with_reducible refine But.alloc ?_ _ | with_reducible refine But.drew ?_ | with_reducible refine But.setCell ?_ (by first | (left; dsimp only; omega) | (left; simp; omega)) _ | with_reducible refine But.trans ?_ (by assumption) | with_reducible refine But.below ?_ (by assumption))), Or.inr ⟨c, p, rfl, hG⟩⟩
  have l3 := hb3.size
  (try simp at l3)
  obtain ⟨⟨q3_0, q3_1, q3_2, q3_3, q3_4, q3_5⟩, q3_f, q3_l⟩ := keep6 hb3 (w.heap.size) (by first | omega | (simp; done) | (simp; omega)) (.int .i64 0) (.string ⟨#[]⟩) (.string ⟨#[]⟩) (.int .i64 0) (.int .i64 0) (.slice none 0 0) (by first | omega | (simp; done) | (simp; omega)) (by go_simp) (by go_simp) (by go_simp) (by go_simp) (by go_simp) (by go_simp) (by go_simp)
  have q3_f0 := q3_f 0
  have q3_f1 := q3_f 1
  have q3_f2 := q3_f 2
  have q3_f3 := q3_f 3
  have q3_f4 := q3_f 4
  have q3_f5 := q3_f 5
  clear q2_0 q2_1 q2_2 q2_3 q2_4 q2_5 q2_f0 q2_f1 q2_f2 q2_f3 q2_f4 q2_f5 q2_f
  have HG3 := Hid.intro hG
  have HS3 := Hid.intro hs
  clear hG hs
  go_wp2_with fail
  refine (HKE.out _ _ _ _ (HS3.out.below (by repeat (first | with_reducible exact Below.refl _ _ | with_reducible refine Below.alloc ?_ (by first | omega | (simp; done) | (simp; omega)) _ | with_reducible refine Below.drew ?_ | with_reducible refine Below.setCell ?_ (by first | (dsimp only; omega) | (simp; omega)) _ ))) HO.out HG3.out).mono ?_
  rintro e w4 ⟨hb4, ⟨v4, x4, r4, rfl, hx4, hs, hG⟩ | ⟨c, p, rfl, hG⟩⟩
  rotate_left
  · exact ⟨rfl, (by repeat (first | with_reducible exact But.refl _ _ | with_reducible refine But.alloc ?_ _ | with_reducible refine But.drew ?_ | with_reducible refine But.setCell ?_ (by first | (left; dsimp only; omega) | (left; simp; omega)) _ | with_reducible refine But.trans ?_ (by assumption) | with_reducible refine But.below ?_ (by assumption))), Or.inr ⟨c, p, rfl, hG⟩⟩
  obtain ⟨nn4, tx4, ox4, a4, ln4, cp4, rfl, htx4⟩ := hx4.form2
  have HX4 := Hid.intro hx4
  have HT4 := Hid.intro htx4
  clear hx4 htx4
  have l4 := hb4.size
  (try simp at l4)
  obtain ⟨⟨q4_0, q4_1, q4_2, q4_3, q4_4, q4_5⟩, q4_f, q4_l⟩ := keep6 hb4 (w.heap.size) (by first | omega | (simp; done) | (simp; omega)) (.int .i64 0) (.string ⟨#[]⟩) (.string ⟨#[]⟩) (.int .i64 0) (.int .i64 0) (.slice none 0 0) (by first | omega | (simp; done) | (simp; omega)) (by go_simp) (by go_simp) (by go_simp) (by go_simp) (by go_simp) (by go_simp) (by go_simp)
  have q4_f0 := q4_f 0
  have q4_f1 := q4_f 1
  have q4_f2 := q4_f 2
  have q4_f3 := q4_f 3
  have q4_f4 := q4_f 4
  have q4_f5 := q4_f 5
  clear q3_0 q3_1 q3_2 q3_3 q3_4 q3_5 q3_f0 q3_f1 q3_f2 q3_f3 q3_f4 q3_f5 q3_f
  have HG4 := Hid.intro hG
  have HS4 := Hid.intro hs
  clear hG hs
  go_wp2_with fail
  refine (must_step ⟨#[105, 110]⟩ (by decide) _ (HS4.out.below (by repeat (first | with_reducible exact Below.refl _ _ | with_reducible refine Below.alloc ?_ (by first | omega | (simp; done) | (simp; omega)) _ | with_reducible refine Below.drew ?_ | with_reducible refine Below.setCell ?_ (by first | (dsimp only; omega) | (simp; omega)) _ ))) HG4.out).mono ?_
  rintro e w5 ⟨hb5, ⟨t5, r5, rfl, hs, hG⟩ | ⟨c, p, rfl, hG⟩⟩
  rotate_left
  · exact ⟨rfl, (by repeat (first | with_reducible exact But.refl _ _ | with_reducible refine But.alloc ?_ _ | with_reducible refine But.drew ?_ | with_reducible refine But.setCell ?_ (by first | (left; dsimp only; omega) | (left; simp; omega)) _ | with_reducible refine But.trans ?_ (by assumption) | with_reducible refine But.below ?_ (by assumption))), Or.inr ⟨c, p, rfl, hG⟩⟩
  have l5 := hb5.size
  (try simp at l5)
  obtain ⟨⟨q5_0, q5_1, q5_2, q5_3, q5_4, q5_5⟩, q5_f, q5_l⟩ := keep6 hb5 (w.heap.size) (by first | omega | (simp; done) | (simp; omega)) (.int .i64 0) (.string ⟨#[]⟩) (.string ⟨#[]⟩) (.int .i64 0) (.int .i64 0) (.slice none 0 0) (by first | omega | (simp; done) | (simp; omega)) (by go_simp) (by go_simp) (by go_simp) (by go_simp) (by go_simp) (by go_simp) (by go_simp)
  have q5_f0 := q5_f 0
  have q5_f1 := q5_f 1
  have q5_f2 := q5_f 2
  have q5_f3 := q5_f 3
  have q5_f4 := q5_f 4
  have q5_f5 := q5_f 5
  obtain ⟨⟨q6_0, q6_1, q6_2, q6_3, q6_4, q6_5⟩, q6_f, q6_l⟩ := keep6 hb5 (w4.heap.size) (by first | omega | (simp; done) | (simp; omega)) (.int .i64 (x4.kind : Int)) (.string tx4) (.string ox4) (.int .i64 nn4) (.int .i64 (x4.pl : Int)) (.slice a4 ln4 cp4) (by first | omega | (simp; done) | (simp; omega)) (by go_simp) (by go_simp) (by go_simp) (by go_simp) (by go_simp) (by go_simp) (by go_simp)
  have q6_f0 := q6_f 0
  have q6_f1 := q6_f 1
  have q6_f2 := q6_f 2
  have q6_f3 := q6_f 3
  have q6_f4 := q6_f 4
  have q6_f5 := q6_f 5
  clear q4_0 q4_1 q4_2 q4_3 q4_4 q4_5 q4_f0 q4_f1 q4_f2 q4_f3 q4_f4 q4_f5 q4_f
  have HG5 := Hid.intro hG
  have HS5 := Hid.intro hs
  clear hG hs
  go_wp2_with fail
  have dd01 : w.heap.size ≠ w4.heap.size := by omega
  have dd10 : w4.heap.size ≠ w.heap.size := by omega
  go_region_held (fun w' => w'.cell? ⟨w4.heap.size, 0, none⟩ = some (.int .i64 (x4.kind : Int)) ∧ w'.cell? ⟨w4.heap.size, 1, none⟩ = some (.string tx4) ∧ w'.cell? ⟨w4.heap.size, 2, none⟩ = some (.string ox4) ∧ w'.cell? ⟨w4.heap.size, 3, none⟩ = some (.int .i64 nn4) ∧ w'.cell? ⟨w4.heap.size, 4, none⟩ = some (.int .i64 (x4.pl : Int)) ∧ w'.cell? ⟨w4.heap.size, 5, none⟩ = some (.slice a4 ln4 cp4)) (go_keep)
    (first | (go_at_call 107; refine (HKS.out _ _ _ _ (HS5.out.below (by repeat (first | with_reducible exact Below.refl _ _ | with_reducible refine Below.alloc ?_ (by first | omega | (simp; done) | (simp; omega)) _ | with_reducible refine Below.drew ?_ | with_reducible refine Below.setCell ?_ (by first | (dsimp only; omega) | (simp; omega)) _ ))) HO.out HG5.out).mono ?_; rintro e w6 ⟨hb6, ⟨v6, x6, r6, rfl, hx6, hs, hG⟩ | ⟨c, p, rfl, hG⟩⟩; rotate_left; (exact ⟨rfl, (by repeat (first | with_reducible exact But.refl _ _ | with_reducible refine But.alloc ?_ _ | with_reducible refine But.drew ?_ | with_reducible refine But.setCell ?_ (by first | (left; dsimp only; omega) | (left; simp; omega)) _ | with_reducible refine But.trans ?_ (by assumption) | with_reducible refine But.below ?_ (by assumption))), Or.inr ⟨c, p, rfl, hG⟩⟩); obtain ⟨nn6, tx6, ox6, a6, ln6, cp6, rfl, htx6⟩ := hx6.form2; have HX6 := Hid.intro hx6; have HT6 := Hid.intro htx6; have HS6 := Hid.intro hs; have HG6 := Hid.intro hG; clear hx6 hs htx6 hG; have l6 := hb6.size; (try simp at l6); obtain ⟨⟨g60_0, g60_1, g60_2, g60_3, g60_4, g60_5⟩, g60_f, g60_l⟩ := keep6 hb6 (w.heap.size) (by first | omega | (simp; done) | (simp; omega)) (.int .i64 0) (.string ⟨#[]⟩) (.string ⟨#[]⟩) (.int .i64 0) (.int .i64 0) (.slice none 0 0) (by first | omega | (simp; done) | (simp; omega)) (by go_simp) (by go_simp) (by go_simp) (by go_simp) (by go_simp) (by go_simp) (by go_simp); have g60_f0 := g60_f 0; have g60_f1 := g60_f 1; have g60_f2 := g60_f 2; have g60_f3 := g60_f 3; have g60_f4 := g60_f 4; have g60_f5 := g60_f 5; obtain ⟨⟨g61_0, g61_1, g61_2, g61_3, g61_4, g61_5⟩, g61_f, g61_l⟩ := keep6 hb6 (w4.heap.size) (by first | omega | (simp; done) | (simp; omega)) (.int .i64 (x4.kind : Int)) (.string tx4) (.string ox4) (.int .i64 nn4) (.int .i64 (x4.pl : Int)) (.slice a4 ln4 cp4) (by first | omega | (simp; done) | (simp; omega)) (by go_simp) (by go_simp) (by go_simp) (by go_simp) (by go_simp) (by go_simp) (by go_simp); have g61_f0 := g61_f 0; have g61_f1 := g61_f 1; have g61_f2 := g61_f 2; have g61_f3 := g61_f 3; have g61_f4 := g61_f 4; have g61_f5 := g61_f 5))
  simp only [Exit.then]
  go_wp2_with fail
  refine bodyPost_ret (v := .agg #[.int .i64 5, .string ⟨(t2.text).toArray⟩, .string ⟨#[]⟩, .int .i64 0, .int .i64 (t1.pos : Nat), .slice (some ⟨w6.heap.size, 0, none⟩) 2 2]) (by simp [results, Tryz.results144, go_sem, *]) rfl ⟨(by repeat (first | with_reducible exact But.refl _ _ | with_reducible refine But.alloc ?_ _ | with_reducible refine But.drew ?_ | with_reducible refine But.setCell ?_ (by first | (left; dsimp only; omega) | (left; simp; omega)) _ | with_reducible refine But.trans ?_ (by assumption) | with_reducible refine But.below ?_ (by assumption))), Or.inl ⟨_, _, _, rfl, ?_, (HS6.out.below (by repeat (first | with_reducible exact Below.refl _ _ | with_reducible refine Below.alloc ?_ (by first | omega | (simp; done) | (simp; omega)) _ | with_reducible refine Below.drew ?_ | with_reducible refine Below.setCell ?_ (by first | (dsimp only; omega) | (simp; omega)) _ ))), HG6.out.symm⟩⟩
  refine ex_two (k := 5) (t := t2.text) (o := []) (n := 0) (p := t1.pos) (u1 := .agg #[.int .i64 (x4.kind : Int), .string tx4, .string ox4, .int .i64 nn4, .int .i64 (x4.pl : Int), .slice a4 ln4 cp4]) (u2 := .agg #[.int .i64 (x6.kind : Int), .string tx6, .string ox6, .int .i64 nn6, .int .i64 (x6.pl : Int), .slice a6 ln6 cp6]) (by first | omega | (simp; done) | (simp; omega)) (by first | omega | (simp; done) | (simp; omega)) ?_ ?_ ((HX4.out.keep (by repeat (first | with_reducible exact Kept.refl _ _ | with_reducible refine Kept.alloc ?_ _ | with_reducible refine Kept.drew ?_ | with_reducible refine Kept.setCell ?_ (by first | (left; dsimp only; omega) | (right; dsimp only; omega) | (left; simp; omega) | (right; simp; omega)) _ | with_reducible refine Kept.but ?_ (by assumption) (by first | omega | (simp; omega)) | with_reducible refine Kept.below ?_ (by assumption)))).low (by first | omega | (simp; done) | (simp; omega))) ((HX6.out.keep (by repeat (first | with_reducible exact Kept.refl _ _ | with_reducible refine Kept.alloc ?_ _ | with_reducible refine Kept.drew ?_ | with_reducible refine Kept.setCell ?_ (by first | (left; dsimp only; omega) | (right; dsimp only; omega) | (left; simp; omega) | (right; simp; omega)) _ | with_reducible refine Kept.but ?_ (by assumption) (by first | omega | (simp; omega)) | with_reducible refine Kept.below ?_ (by assumption)))).low (by first | omega | (simp; done) | (simp; omega)))
  all_goals
    refine six ?_ ?_ ?_ ?_ ?_ ?_
    all_goals first | (go_simp; done) | (go_simp; rfl)

set_option maxHeartbeats 8000000 in
theorem choice_reads {Z R en f : Nat} (KE : Reads Z R en f 130 .expr) : ReadsC Z R en f 145 choiceC := by
  intro ts O w hw hO hg
  have lz : Z ≤ w.heap.size := hw.size
  have lr : R < Z := hw.rz
  have HO := Hid.intro hO
  have HW := Hid.intro hw
  have HKE := Hid.intro KE
  rw [choiceC] at hg
  have HG0 := Hid.intro hg
  clear KE hw hO hg
  have F0 := fld0; have F1 := fld1; have F2 := fld2; have F3 := fld3
  go_enter Tryz.func145, Tryz.ntmps145
  go_wp2_with fail
  refine (must_step ⟨#[105, 102]⟩ (by decide) _ (HW.out.below (by repeat (first | with_reducible exact Below.refl _ _ | with_reducible refine Below.alloc ?_ (by first | omega | (simp; done) | (simp; omega)) _ | with_reducible refine Below.drew ?_ | with_reducible refine Below.setCell ?_ (by first | (dsimp only; omega) | (simp; omega)) _ ))) HG0.out).mono ?_
  rintro e w1 ⟨hb1, ⟨t1, r1, rfl, hs, hG⟩ | ⟨c, p, rfl, hG⟩⟩
  rotate_left
  · exact ⟨rfl, (by repeat (first | with_reducible exact But.refl _ _ | with_reducible refine But.alloc ?_ _ | with_reducible refine But.drew ?_ | with_reducible refine But.setCell ?_ (by first | (left; dsimp only; omega) | (left; simp; omega)) _ | with_reducible refine But.trans ?_ (by assumption) | with_reducible refine But.below ?_ (by assumption))), Or.inr ⟨c, p, rfl, hG⟩⟩
  have l1 := hb1.size
  (try simp at l1)
  obtain ⟨⟨q1_0, q1_1, q1_2, q1_3, q1_4, q1_5⟩, q1_f, q1_l⟩ := keep6 hb1 (w.heap.size) (by first | omega | (simp; done) | (simp; omega)) (.int .i64 0) (.string ⟨#[]⟩) (.string ⟨#[]⟩) (.int .i64 0) (.int .i64 0) (.slice none 0 0) (by first | omega | (simp; done) | (simp; omega)) (by go_simp) (by go_simp) (by go_simp) (by go_simp) (by go_simp) (by go_simp) (by go_simp)
  have q1_f0 := q1_f 0
  have q1_f1 := q1_f 1
  have q1_f2 := q1_f 2
  have q1_f3 := q1_f 3
  have q1_f4 := q1_f 4
  have q1_f5 := q1_f 5
  have HG1 := Hid.intro hG
  have HS1 := Hid.intro hs
  clear hG hs
  go_wp2_with fail
  refine (HKE.out _ _ _ _ (HS1.out.below (by repeat (first | with_reducible exact Below.refl _ _ | with_reducible refine Below.alloc ?_ (by first | omega | (simp; done) | (simp; omega)) _ | with_reducible refine Below.drew ?_ | with_reducible refine Below.setCell ?_ (by first | (dsimp only; omega) | (simp; omega)) _ ))) HO.out HG1.out).mono ?_
  rintro e w2 ⟨hb2, ⟨v2, x2, r2, rfl, hx2, hs, hG⟩ | ⟨c, p, rfl, hG⟩⟩
  rotate_left
  · exact ⟨rfl, (by repeat (first | with_reducible exact But.refl _ _ | with_reducible refine But.alloc ?_ _ | with_reducible refine But.drew ?_ | with_reducible refine But.setCell ?_ (by first | (left; dsimp only; omega) | (left; simp; omega)) _ | with_reducible refine But.trans ?_ (by assumption) | with_reducible refine But.below ?_ (by assumption))), Or.inr ⟨c, p, rfl, hG⟩⟩
  obtain ⟨nn2, tx2, ox2, a2, ln2, cp2, rfl, htx2⟩ := hx2.form2
  have HX2 := Hid.intro hx2
  have HT2 := Hid.intro htx2
  clear hx2 htx2
  have l2 := hb2.size
  (try simp at l2)
  obtain ⟨⟨q2_0, q2_1, q2_2, q2_3, q2_4, q2_5⟩, q2_f, q2_l⟩ := keep6 hb2 (w.heap.size) (by first | omega | (simp; done) | (simp; omega)) (.int .i64 0) (.string ⟨#[]⟩) (.string ⟨#[]⟩) (.int .i64 0) (.int .i64 0) (.slice none 0 0) (by first | omega | (simp; done) | (simp; omega)) (by go_simp) (by go_simp) (by go_simp) (by go_simp) (by go_simp) (by go_simp) (by go_simp)
  have q2_f0 := q2_f 0
  have q2_f1 := q2_f 1
  have q2_f2 := q2_f 2
  have q2_f3 := q2_f 3
  have q2_f4 := q2_f 4
  have q2_f5 := q2_f 5
  clear q1_0 q1_1 q1_2 q1_3 q1_4 q1_5 q1_f0 q1_f1 q1_f2 q1_f3 q1_f4 q1_f5 q1_f
  have HG2 := Hid.intro hG
  have HS2 := Hid.intro hs
  clear hG hs
  go_wp2_with fail
  refine (must_step ⟨#[116, 104, 101, 110]⟩ (by decide) _ (HS2.out.below (by repeat (first | with_reducible exact Below.refl _ _ | with_reducible refine Below.alloc ?_ (by first | omega | (simp; done) | (simp; omega)) _ | with_reducible refine Below.drew ?_ | with_reducible refine Below.setCell ?_ (by first | (dsimp only; omega) | (simp; omega)) _ ))) HG2.out).mono ?_
  rintro e w3 ⟨hb3, ⟨t3, r3, rfl, hs, hG⟩ | ⟨c, p, rfl, hG⟩⟩
  rotate_left
  · exact ⟨rfl, (by repeat (first | with_reducible exact But.refl _ _ | with_reducible refine But.alloc ?_ _ | with_reducible refine But.drew ?_ | with_reducible refine But.setCell ?_ (by first | (left; dsimp only; omega) | (left; simp; omega)) _ | with_reducible refine But.trans ?_ (by assumption) | with_reducible refine But.below ?_ (by assumption))), Or.inr ⟨c, p, rfl, hG⟩⟩
  have l3 := hb3.size
  (try simp at l3)
  obtain ⟨⟨q3_0, q3_1, q3_2, q3_3, q3_4, q3_5⟩, q3_f, q3_l⟩ := keep6 hb3 (w.heap.size) (by first | omega | (simp; done) | (simp; omega)) (.int .i64 0) (.string ⟨#[]⟩) (.string ⟨#[]⟩) (.int .i64 0) (.int .i64 0) (.slice none 0 0) (by first | omega | (simp; done) | (simp; omega)) (by go_simp) (by go_simp) (by go_simp) (by go_simp) (by go_simp) (by go_simp) (by go_simp)
  have q3_f0 := q3_f 0
  have q3_f1 := q3_f 1
  have q3_f2 := q3_f 2
  have q3_f3 := q3_f 3
  have q3_f4 := q3_f 4
  have q3_f5 := q3_f 5
  obtain ⟨⟨q4_0, q4_1, q4_2, q4_3, q4_4, q4_5⟩, q4_f, q4_l⟩ := keep6 hb3 (w2.heap.size) (by first | omega | (simp; done) | (simp; omega)) (.int .i64 (x2.kind : Int)) (.string tx2) (.string ox2) (.int .i64 nn2) (.int .i64 (x2.pl : Int)) (.slice a2 ln2 cp2) (by first | omega | (simp; done) | (simp; omega)) (by go_simp) (by go_simp) (by go_simp) (by go_simp) (by go_simp) (by go_simp) (by go_simp)
  have q4_f0 := q4_f 0
  have q4_f1 := q4_f 1
  have q4_f2 := q4_f 2
  have q4_f3 := q4_f 3
  have q4_f4 := q4_f 4
  have q4_f5 := q4_f 5
  clear q2_0 q2_1 q2_2 q2_3 q2_4 q2_5 q2_f0 q2_f1 q2_f2 q2_f3 q2_f4 q2_f5 q2_f
  have HG3 := Hid.intro hG
  have HS3 := Hid.intro hs
  clear hG hs
  go_wp2_with fail
  refine (HKE.out _ _ _ _ (HS3.out.below (by repeat (first | with_reducible exact Below.refl _ _ | with_reducible refine Below.alloc ?_ (by first | omega | (simp; done) | (simp; omega)) _ | with_reducible refine Below.drew ?_ | with_reducible refine Below.setCell ?_ (by first | (dsimp only; omega) | (simp; omega)) _ ))) HO.out HG3.out).mono ?_
  rintro e w4 ⟨hb4, ⟨v4, x4, r4, rfl, hx4, hs, hG⟩ | ⟨c, p, rfl, hG⟩⟩
  rotate_left
  · exact ⟨rfl, (by repeat (first | with_reducible exact But.refl _ _ | with_reducible refine But.alloc ?_ _ | with_reducible refine But.drew ?_ | with_reducible refine But.setCell ?_ (by first | (left; dsimp only; omega) | (left; simp; omega)) _ | with_reducible refine But.trans ?_ (by assumption) | with_reducible refine But.below ?_ (by assumption))), Or.inr ⟨c, p, rfl, hG⟩⟩
  obtain ⟨nn4, tx4, ox4, a4, ln4, cp4, rfl, htx4⟩ := hx4.form2
  have HX4 := Hid.intro hx4
  have HT4 := Hid.intro htx4
  clear hx4 htx4
  have l4 := hb4.size
  (try simp at l4)
  obtain ⟨⟨q5_0, q5_1, q5_2, q5_3, q5_4, q5_5⟩, q5_f, q5_l⟩ := keep6 hb4 (w.heap.size) (by first | omega | (simp; done) | (simp; omega)) (.int .i64 0) (.string ⟨#[]⟩) (.string ⟨#[]⟩) (.int .i64 0) (.int .i64 0) (.slice none 0 0) (by first | omega | (simp; done) | (simp; omega)) (by go_simp) (by go_simp) (by go_simp) (by go_simp) (by go_simp) (by go_simp) (by go_simp)
  have q5_f0 := q5_f 0
  have q5_f1 := q5_f 1
  have q5_f2 := q5_f 2
  have q5_f3 := q5_f 3
  have q5_f4 := q5_f 4
  have q5_f5 := q5_f 5
  obtain ⟨⟨q6_0, q6_1, q6_2, q6_3, q6_4, q6_5⟩, q6_f, q6_l⟩ := keep6 hb4 (w2.heap.size) (by first | omega | (simp; done) | (simp; omega)) (.int .i64 (x2.kind : Int)) (.string tx2) (.string ox2) (.int .i64 nn2) (.int .i64 (x2.pl : Int)) (.slice a2 ln2 cp2) (by first | omega | (simp; done) | (simp; omega)) (by go_simp) (by go_simp) (by go_simp) (by go_simp) (by go_simp) (by go_simp) (by go_simp)
  have q6_f0 := q6_f 0
  have q6_f1 := q6_f 1
  have q6_f2 := q6_f 2
  have q6_f3 := q6_f 3
  have q6_f4 := q6_f 4
  have q6_f5 := q6_f 5
  clear q3_0 q3_1 q3_2 q3_3 q3_4 q3_5 q3_f0 q3_f1 q3_f2 q3_f3 q3_f4 q3_f5 q3_f
  clear q4_0 q4_1 q4_2 q4_3 q4_4 q4_5 q4_f0 q4_f1 q4_f2 q4_f3 q4_f4 q4_f5 q4_f
  have HG4 := Hid.intro hG
  have HS4 := Hid.intro hs
  clear hG hs
  go_wp2_with fail
  refine (must_step ⟨#[101, 108, 115, 101]⟩ (by decide) _ (HS4.out.below (by repeat (first | with_reducible exact Below.refl _ _ | with_reducible refine Below.alloc ?_ (by first | omega | (simp; done) | (simp; omega)) _ | with_reducible refine Below.drew ?_ | with_reducible refine Below.setCell ?_ (by first | (dsimp only; omega) | (simp; omega)) _ ))) HG4.out).mono ?_
  rintro e w5 ⟨hb5, ⟨t5, r5, rfl, hs, hG⟩ | ⟨c, p, rfl, hG⟩⟩
  rotate_left
  · exact ⟨rfl, (by repeat (first | with_reducible exact But.refl _ _ | with_reducible refine But.alloc ?_ _ | with_reducible refine But.drew ?_ | with_reducible refine But.setCell ?_ (by first | (left; dsimp only; omega) | (left; simp; omega)) _ | with_reducible refine But.trans ?_ (by assumption) | with_reducible refine But.below ?_ (by assumption))), Or.inr ⟨c, p, rfl, hG⟩⟩
  have l5 := hb5.size
  (try simp at l5)
  obtain ⟨⟨q7_0, q7_1, q7_2, q7_3, q7_4, q7_5⟩, q7_f, q7_l⟩ := keep6 hb5 (w.heap.size) (by first | omega | (simp; done) | (simp; omega)) (.int .i64 0) (.string ⟨#[]⟩) (.string ⟨#[]⟩) (.int .i64 0) (.int .i64 0) (.slice none 0 0) (by first | omega | (simp; done) | (simp; omega)) (by go_simp) (by go_simp) (by go_simp) (by go_simp) (by go_simp) (by go_simp) (by go_simp)
  have q7_f0 := q7_f 0
  have q7_f1 := q7_f 1
  have q7_f2 := q7_f 2
  have q7_f3 := q7_f 3
  have q7_f4 := q7_f 4
  have q7_f5 := q7_f 5
  obtain ⟨⟨q8_0, q8_1, q8_2, q8_3, q8_4, q8_5⟩, q8_f, q8_l⟩ := keep6 hb5 (w2.heap.size) (by first | omega | (simp; done) | (simp; omega)) (.int .i64 (x2.kind : Int)) (.string tx2) (.string ox2) (.int .i64 nn2) (.int .i64 (x2.pl : Int)) (.slice a2 ln2 cp2) (by first | omega | (simp; done) | (simp; omega)) (by go_simp) (by go_simp) (by go_simp) (by go_simp) (by go_simp) (by go_simp) (by go_simp)
  have q8_f0 := q8_f 0
  have q8_f1 := q8_f 1
  have q8_f2 := q8_f 2
  have q8_f3 := q8_f 3
  have q8_f4 := q8_f 4
  have q8_f5 := q8_f 5
  obtain ⟨⟨q9_0, q9_1, q9_2, q9_3, q9_4, q9_5⟩, q9_f, q9_l⟩ := keep6 hb5 (w4.heap.size) (by first | omega | (simp; done) | (simp; omega)) (.int .i64 (x4.kind : Int)) (.string tx4) (.string ox4) (.int .i64 nn4) (.int .i64 (x4.pl : Int)) (.slice a4 ln4 cp4) (by first | omega | (simp; done) | (simp; omega)) (by go_simp) (by go_simp) (by go_simp) (by go_simp) (by go_simp) (by go_simp) (by go_simp)
  have q9_f0 := q9_f 0
  have q9_f1 := q9_f 1
  have q9_f2 := q9_f 2
  have q9_f3 := q9_f 3
  have q9_f4 := q9_f 4
  have q9_f5 := q9_f 5
  clear q5_0 q5_1 q5_2 q5_3 q5_4 q5_5 q5_f0 q5_f1 q5_f2 q5_f3 q5_f4 q5_f5 q5_f
  clear q6_0 q6_1 q6_2 q6_3 q6_4 q6_5 q6_f0 q6_f1 q6_f2 q6_f3 q6_f4 q6_f5 q6_f
  have HG5 := Hid.intro hG
  have HS5 := Hid.intro hs
  clear hG hs
  go_wp2_with fail
  have dd01 : w.heap.size ≠ w2.heap.size := by omega
  have dd02 : w.heap.size ≠ w4.heap.size := by omega
  have dd10 : w2.heap.size ≠ w.heap.size := by omega
  have dd12 : w2.heap.size ≠ w4.heap.size := by omega
  have dd20 : w4.heap.size ≠ w.heap.size := by omega
  have dd21 : w4.heap.size ≠ w2.heap.size := by omega
  go_region_held (fun w' => w'.cell? ⟨w2.heap.size, 0, none⟩ = some (.int .i64 (x2.kind : Int)) ∧ w'.cell? ⟨w2.heap.size, 1, none⟩ = some (.string tx2) ∧ w'.cell? ⟨w2.heap.size, 2, none⟩ = some (.string ox2) ∧ w'.cell? ⟨w2.heap.size, 3, none⟩ = some (.int .i64 nn2) ∧ w'.cell? ⟨w2.heap.size, 4, none⟩ = some (.int .i64 (x2.pl : Int)) ∧ w'.cell? ⟨w2.heap.size, 5, none⟩ = some (.slice a2 ln2 cp2) ∧ w'.cell? ⟨w4.heap.size, 0, none⟩ = some (.int .i64 (x4.kind : Int)) ∧ w'.cell? ⟨w4.heap.size, 1, none⟩ = some (.string tx4) ∧ w'.cell? ⟨w4.heap.size, 2, none⟩ = some (.string ox4) ∧ w'.cell? ⟨w4.heap.size, 3, none⟩ = some (.int .i64 nn4) ∧ w'.cell? ⟨w4.heap.size, 4, none⟩ = some (.int .i64 (x4.pl : Int)) ∧ w'.cell? ⟨w4.heap.size, 5, none⟩ = some (.slice a4 ln4 cp4)) (go_keep)
    (first | (go_at_call 130; refine (HKE.out _ _ _ _ (HS5.out.below (by repeat (first | with_reducible exact Below.refl _ _ | with_reducible refine Below.alloc ?_ (by first | omega | (simp; done) | (simp; omega)) _ | with_reducible refine Below.drew ?_ | with_reducible refine Below.setCell ?_ (by first | (dsimp only; omega) | (simp; omega)) _ ))) HO.out HG5.out).mono ?_; rintro e w6 ⟨hb6, ⟨v6, x6, r6, rfl, hx6, hs, hG⟩ | ⟨c, p, rfl, hG⟩⟩; rotate_left; (exact ⟨rfl, (by repeat (first | with_reducible exact But.refl _ _ | with_reducible refine But.alloc ?_ _ | with_reducible refine But.drew ?_ | with_reducible refine But.setCell ?_ (by first | (left; dsimp only; omega) | (left; simp; omega)) _ | with_reducible refine But.trans ?_ (by assumption) | with_reducible refine But.below ?_ (by assumption))), Or.inr ⟨c, p, rfl, hG⟩⟩); obtain ⟨nn6, tx6, ox6, a6, ln6, cp6, rfl, htx6⟩ := hx6.form2; have HX6 := Hid.intro hx6; have HT6 := Hid.intro htx6; have HS6 := Hid.intro hs; have HG6 := Hid.intro hG; clear hx6 hs htx6 hG; have l6 := hb6.size; (try simp at l6); obtain ⟨⟨g60_0, g60_1, g60_2, g60_3, g60_4, g60_5⟩, g60_f, g60_l⟩ := keep6 hb6 (w.heap.size) (by first | omega | (simp; done) | (simp; omega)) (.int .i64 0) (.string ⟨#[]⟩) (.string ⟨#[]⟩) (.int .i64 0) (.int .i64 0) (.slice none 0 0) (by first | omega | (simp; done) | (simp; omega)) (by go_simp) (by go_simp) (by go_simp) (by go_simp) (by go_simp) (by go_simp) (by go_simp); have g60_f0 := g60_f 0; have g60_f1 := g60_f 1; have g60_f2 := g60_f 2; have g60_f3 := g60_f 3; have g60_f4 := g60_f 4; have g60_f5 := g60_f 5; obtain ⟨⟨g61_0, g61_1, g61_2, g61_3, g61_4, g61_5⟩, g61_f, g61_l⟩ := keep6 hb6 (w2.heap.size) (by first | omega | (simp; done) | (simp; omega)) (.int .i64 (x2.kind : Int)) (.string tx2) (.string ox2) (.int .i64 nn2) (.int .i64 (x2.pl : Int)) (.slice a2 ln2 cp2) (by first | omega | (simp; done) | (simp; omega)) (by go_simp) (by go_simp) (by go_simp) (by go_simp) (by go_simp) (by go_simp) (by go_simp); have g61_f0 := g61_f 0; have g61_f1 := g61_f 1; have g61_f2 := g61_f 2; have g61_f3 := g61_f 3; have g61_f4 := g61_f 4; have g61_f5 := g61_f 5; obtain ⟨⟨g62_0, g62_1, g62_2, g62_3, g62_4, g62_5⟩, g62_f, g62_l⟩ := keep6 hb6 (w4.heap.size) (by first | omega | (simp; done) | (simp; omega)) (.int .i64 (x4.kind : Int)) (.string tx4) (.string ox4) (.int .i64 nn4) (.int .i64 (x4.pl : Int)) (.slice a4 ln4 cp4) (by first | omega | (simp; done) | (simp; omega)) (by go_simp) (by go_simp) (by go_simp) (by go_simp) (by go_simp) (by go_simp) (by go_simp); have g62_f0 := g62_f 0; have g62_f1 := g62_f 1; have g62_f2 := g62_f 2; have g62_f3 := g62_f 3; have g62_f4 := g62_f 4; have g62_f5 := g62_f 5))
  simp only [Exit.then]
  go_wp2_with fail
  refine bodyPost_ret (v := .agg #[.int .i64 6, .string ⟨#[]⟩, .string ⟨#[]⟩, .int .i64 0, .int .i64 (t1.pos : Nat), .slice (some ⟨w6.heap.size, 0, none⟩) 3 3]) (by simp [results, Tryz.results145, go_sem, *]) rfl ⟨(by repeat (first | with_reducible exact But.refl _ _ | with_reducible refine But.alloc ?_ _ | with_reducible refine But.drew ?_ | with_reducible refine But.setCell ?_ (by first | (left; dsimp only; omega) | (left; simp; omega)) _ | with_reducible refine But.trans ?_ (by assumption) | with_reducible refine But.below ?_ (by assumption))), Or.inl ⟨_, _, _, rfl, ?_, (HS6.out.below (by repeat (first | with_reducible exact Below.refl _ _ | with_reducible refine Below.alloc ?_ (by first | omega | (simp; done) | (simp; omega)) _ | with_reducible refine Below.drew ?_ | with_reducible refine Below.setCell ?_ (by first | (dsimp only; omega) | (simp; omega)) _ ))), HG6.out.symm⟩⟩
  refine ex_three (k := 6) (t := []) (o := []) (n := 0) (p := t1.pos) (u1 := .agg #[.int .i64 (x2.kind : Int), .string tx2, .string ox2, .int .i64 nn2, .int .i64 (x2.pl : Int), .slice a2 ln2 cp2]) (u2 := .agg #[.int .i64 (x4.kind : Int), .string tx4, .string ox4, .int .i64 nn4, .int .i64 (x4.pl : Int), .slice a4 ln4 cp4]) (u3 := .agg #[.int .i64 (x6.kind : Int), .string tx6, .string ox6, .int .i64 nn6, .int .i64 (x6.pl : Int), .slice a6 ln6 cp6]) (by first | omega | (simp; done) | (simp; omega)) (by first | omega | (simp; done) | (simp; omega)) ?_ ?_ ?_ ((HX2.out.keep (by repeat (first | with_reducible exact Kept.refl _ _ | with_reducible refine Kept.alloc ?_ _ | with_reducible refine Kept.drew ?_ | with_reducible refine Kept.setCell ?_ (by first | (left; dsimp only; omega) | (right; dsimp only; omega) | (left; simp; omega) | (right; simp; omega)) _ | with_reducible refine Kept.but ?_ (by assumption) (by first | omega | (simp; omega)) | with_reducible refine Kept.below ?_ (by assumption)))).low (by first | omega | (simp; done) | (simp; omega))) ((HX4.out.keep (by repeat (first | with_reducible exact Kept.refl _ _ | with_reducible refine Kept.alloc ?_ _ | with_reducible refine Kept.drew ?_ | with_reducible refine Kept.setCell ?_ (by first | (left; dsimp only; omega) | (right; dsimp only; omega) | (left; simp; omega) | (right; simp; omega)) _ | with_reducible refine Kept.but ?_ (by assumption) (by first | omega | (simp; omega)) | with_reducible refine Kept.below ?_ (by assumption)))).low (by first | omega | (simp; done) | (simp; omega))) ((HX6.out.keep (by repeat (first | with_reducible exact Kept.refl _ _ | with_reducible refine Kept.alloc ?_ _ | with_reducible refine Kept.drew ?_ | with_reducible refine Kept.setCell ?_ (by first | (left; dsimp only; omega) | (right; dsimp only; omega) | (left; simp; omega) | (right; simp; omega)) _ | with_reducible refine Kept.but ?_ (by assumption) (by first | omega | (simp; omega)) | with_reducible refine Kept.below ?_ (by assumption)))).low (by first | omega | (simp; done) | (simp; omega)))
  all_goals
    refine six ?_ ?_ ?_ ?_ ?_ ?_
    all_goals first | (go_simp; done) | (go_simp; rfl)

set_option maxHeartbeats 8000000 in
theorem function_reads {Z R en f : Nat} (KE : Reads Z R en f 130 .expr) : ReadsC Z R en f 146 funC := by
  intro ts O w hw hO hg
  have lz : Z ≤ w.heap.size := hw.size
  have lr : R < Z := hw.rz
  have HO := Hid.intro hO
  have HW := Hid.intro hw
  have HKE := Hid.intro KE
  rw [funC] at hg
  have HG0 := Hid.intro hg
  clear KE hw hO hg
  have F0 := fld0; have F1 := fld1; have F2 := fld2; have F3 := fld3
  go_enter Tryz.func146, Tryz.ntmps146
  go_wp2_with fail
  refine (must_step ⟨#[102, 117, 110]⟩ (by decide) _ (HW.out.below (by repeat (first | with_reducible exact Below.refl _ _ | with_reducible refine Below.alloc ?_ (by first | omega | (simp; done) | (simp; omega)) _ | with_reducible refine Below.drew ?_ | with_reducible refine Below.setCell ?_ (by first | (dsimp only; omega) | (simp; omega)) _ ))) HG0.out).mono ?_
  rintro e w1 ⟨hb1, ⟨t1, r1, rfl, hs, hG⟩ | ⟨c, p, rfl, hG⟩⟩
  rotate_left
  · exact ⟨rfl, (by repeat (first | with_reducible exact But.refl _ _ | with_reducible refine But.alloc ?_ _ | with_reducible refine But.drew ?_ | with_reducible refine But.setCell ?_ (by first | (left; dsimp only; omega) | (left; simp; omega)) _ | with_reducible refine But.trans ?_ (by assumption) | with_reducible refine But.below ?_ (by assumption))), Or.inr ⟨c, p, rfl, hG⟩⟩
  have l1 := hb1.size
  (try simp at l1)
  obtain ⟨⟨q1_0, q1_1, q1_2, q1_3, q1_4, q1_5⟩, q1_f, q1_l⟩ := keep6 hb1 (w.heap.size) (by first | omega | (simp; done) | (simp; omega)) (.int .i64 0) (.string ⟨#[]⟩) (.string ⟨#[]⟩) (.int .i64 0) (.int .i64 0) (.slice none 0 0) (by first | omega | (simp; done) | (simp; omega)) (by go_simp) (by go_simp) (by go_simp) (by go_simp) (by go_simp) (by go_simp) (by go_simp)
  have q1_f0 := q1_f 0
  have q1_f1 := q1_f 1
  have q1_f2 := q1_f 2
  have q1_f3 := q1_f 3
  have q1_f4 := q1_f 4
  have q1_f5 := q1_f 5
  have HG1 := Hid.intro hG
  have HS1 := Hid.intro hs
  clear hG hs
  go_wp2_with fail
  refine (name_step _ (HS1.out.below (by repeat (first | with_reducible exact Below.refl _ _ | with_reducible refine Below.alloc ?_ (by first | omega | (simp; done) | (simp; omega)) _ | with_reducible refine Below.drew ?_ | with_reducible refine Below.setCell ?_ (by first | (dsimp only; omega) | (simp; omega)) _ ))) HG1.out).mono ?_
  rintro e w2 ⟨hb2, ⟨t2, r2, rfl, hs, hG⟩ | ⟨c, p, rfl, hG⟩⟩
  rotate_left
  · exact ⟨rfl, (by repeat (first | with_reducible exact But.refl _ _ | with_reducible refine But.alloc ?_ _ | with_reducible refine But.drew ?_ | with_reducible refine But.setCell ?_ (by first | (left; dsimp only; omega) | (left; simp; omega)) _ | with_reducible refine But.trans ?_ (by assumption) | with_reducible refine But.below ?_ (by assumption))), Or.inr ⟨c, p, rfl, hG⟩⟩
  have l2 := hb2.size
  (try simp at l2)
  obtain ⟨⟨q2_0, q2_1, q2_2, q2_3, q2_4, q2_5⟩, q2_f, q2_l⟩ := keep6 hb2 (w.heap.size) (by first | omega | (simp; done) | (simp; omega)) (.int .i64 0) (.string ⟨#[]⟩) (.string ⟨#[]⟩) (.int .i64 0) (.int .i64 0) (.slice none 0 0) (by first | omega | (simp; done) | (simp; omega)) (by go_simp) (by go_simp) (by go_simp) (by go_simp) (by go_simp) (by go_simp) (by go_simp)
  have q2_f0 := q2_f 0
  have q2_f1 := q2_f 1
  have q2_f2 := q2_f 2
  have q2_f3 := q2_f 3
  have q2_f4 := q2_f 4
  have q2_f5 := q2_f 5
  clear q1_0 q1_1 q1_2 q1_3 q1_4 q1_5 q1_f0 q1_f1 q1_f2 q1_f3 q1_f4 q1_f5 q1_f
  have HG2 := Hid.intro hG
  have HS2 := Hid.intro hs
  clear hG hs
  go_wp2_with fail
  refine (must_step ⟨#[45, 62]⟩ (by decide) _ (HS2.out.below (by repeat (first | with_reducible exact Below.refl _ _ | with_reducible refine Below.alloc ?_ (by first | omega | (simp; done) | (simp; omega)) _ | with_reducible refine Below.drew ?_ | with_reducible refine Below.setCell ?_ (by first | (dsimp only; omega) | (simp; omega)) _ ))) HG2.out).mono ?_
  rintro e w3 ⟨hb3, ⟨t3, r3, rfl, hs, hG⟩ | ⟨c, p, rfl, hG⟩⟩
  rotate_left
  · exact ⟨rfl, (by repeat (first | with_reducible exact But.refl _ _ | with_reducible refine But.alloc ?_ _ | with_reducible refine But.drew ?_ | with_reducible refine But.setCell ?_ (by first | (left; dsimp only; omega) | (left; simp; omega)) _ | with_reducible refine But.trans ?_ (by assumption) | with_reducible refine But.below ?_ (by assumption))), Or.inr ⟨c, p, rfl, hG⟩⟩
  have l3 := hb3.size
  (try simp at l3)
  obtain ⟨⟨q3_0, q3_1, q3_2, q3_3, q3_4, q3_5⟩, q3_f, q3_l⟩ := keep6 hb3 (w.heap.size) (by first | omega | (simp; done) | (simp; omega)) (.int .i64 0) (.string ⟨#[]⟩) (.string ⟨#[]⟩) (.int .i64 0) (.int .i64 0) (.slice none 0 0) (by first | omega | (simp; done) | (simp; omega)) (by go_simp) (by go_simp) (by go_simp) (by go_simp) (by go_simp) (by go_simp) (by go_simp)
  have q3_f0 := q3_f 0
  have q3_f1 := q3_f 1
  have q3_f2 := q3_f 2
  have q3_f3 := q3_f 3
  have q3_f4 := q3_f 4
  have q3_f5 := q3_f 5
  clear q2_0 q2_1 q2_2 q2_3 q2_4 q2_5 q2_f0 q2_f1 q2_f2 q2_f3 q2_f4 q2_f5 q2_f
  have HG3 := Hid.intro hG
  have HS3 := Hid.intro hs
  clear hG hs
  go_wp2_with fail
  refine (HKE.out _ _ _ _ (HS3.out.below (by repeat (first | with_reducible exact Below.refl _ _ | with_reducible refine Below.alloc ?_ (by first | omega | (simp; done) | (simp; omega)) _ | with_reducible refine Below.drew ?_ | with_reducible refine Below.setCell ?_ (by first | (dsimp only; omega) | (simp; omega)) _ ))) HO.out HG3.out).mono ?_
  rintro e w4 ⟨hb4, ⟨v4, x4, r4, rfl, hx4, hs, hG⟩ | ⟨c, p, rfl, hG⟩⟩
  rotate_left
  · exact ⟨rfl, (by repeat (first | with_reducible exact But.refl _ _ | with_reducible refine But.alloc ?_ _ | with_reducible refine But.drew ?_ | with_reducible refine But.setCell ?_ (by first | (left; dsimp only; omega) | (left; simp; omega)) _ | with_reducible refine But.trans ?_ (by assumption) | with_reducible refine But.below ?_ (by assumption))), Or.inr ⟨c, p, rfl, hG⟩⟩
  obtain ⟨nn4, tx4, ox4, a4, ln4, cp4, rfl, htx4⟩ := hx4.form2
  have HX4 := Hid.intro hx4
  have HT4 := Hid.intro htx4
  clear hx4 htx4
  have l4 := hb4.size
  (try simp at l4)
  obtain ⟨⟨q4_0, q4_1, q4_2, q4_3, q4_4, q4_5⟩, q4_f, q4_l⟩ := keep6 hb4 (w.heap.size) (by first | omega | (simp; done) | (simp; omega)) (.int .i64 0) (.string ⟨#[]⟩) (.string ⟨#[]⟩) (.int .i64 0) (.int .i64 0) (.slice none 0 0) (by first | omega | (simp; done) | (simp; omega)) (by go_simp) (by go_simp) (by go_simp) (by go_simp) (by go_simp) (by go_simp) (by go_simp)
  have q4_f0 := q4_f 0
  have q4_f1 := q4_f 1
  have q4_f2 := q4_f 2
  have q4_f3 := q4_f 3
  have q4_f4 := q4_f 4
  have q4_f5 := q4_f 5
  clear q3_0 q3_1 q3_2 q3_3 q3_4 q3_5 q3_f0 q3_f1 q3_f2 q3_f3 q3_f4 q3_f5 q3_f
  have HG4 := Hid.intro hG
  have HS4 := Hid.intro hs
  clear hG hs
  go_wp2
  refine bodyPost_ret (v := .agg #[.int .i64 7, .string ⟨(t2.text).toArray⟩, .string ⟨#[]⟩, .int .i64 0, .int .i64 (t1.pos : Nat), .slice (some ⟨w4.heap.size, 0, none⟩) 1 1]) (by simp [results, Tryz.results146, go_sem, *]) rfl ⟨(by repeat (first | with_reducible exact But.refl _ _ | with_reducible refine But.alloc ?_ _ | with_reducible refine But.drew ?_ | with_reducible refine But.setCell ?_ (by first | (left; dsimp only; omega) | (left; simp; omega)) _ | with_reducible refine But.trans ?_ (by assumption) | with_reducible refine But.below ?_ (by assumption))), Or.inl ⟨_, _, _, rfl, ?_, (HS4.out.below (by repeat (first | with_reducible exact Below.refl _ _ | with_reducible refine Below.alloc ?_ (by first | omega | (simp; done) | (simp; omega)) _ | with_reducible refine Below.drew ?_ | with_reducible refine Below.setCell ?_ (by first | (dsimp only; omega) | (simp; omega)) _ ))), HG4.out.symm⟩⟩
  refine ex_one (k := 7) (t := t2.text) (o := []) (n := 0) (p := t1.pos) (u1 := .agg #[.int .i64 (x4.kind : Int), .string tx4, .string ox4, .int .i64 nn4, .int .i64 (x4.pl : Int), .slice a4 ln4 cp4]) (by first | omega | (simp; done) | (simp; omega)) (by first | omega | (simp; done) | (simp; omega)) ?_ ((HX4.out.keep (by repeat (first | with_reducible exact Kept.refl _ _ | with_reducible refine Kept.alloc ?_ _ | with_reducible refine Kept.drew ?_ | with_reducible refine Kept.setCell ?_ (by first | (left; dsimp only; omega) | (right; dsimp only; omega) | (left; simp; omega) | (right; simp; omega)) _ | with_reducible refine Kept.but ?_ (by assumption) (by first | omega | (simp; omega)) | with_reducible refine Kept.below ?_ (by assumption)))).low (by first | omega | (simp; done) | (simp; omega)))
  all_goals
    refine six ?_ ?_ ?_ ?_ ?_ ?_
    all_goals first | (go_simp; done) | (go_simp; rfl)

set_option maxHeartbeats 8000000 in
theorem store_reads {Z R en f : Nat} (KE : Reads Z R en f 130 .expr) : ReadsC Z R en f 149 storeC := by
  intro ts O w hw hO hg
  have lz : Z ≤ w.heap.size := hw.size
  have lr : R < Z := hw.rz
  have HO := Hid.intro hO
  have HW := Hid.intro hw
  have HKE := Hid.intro KE
  rw [storeC, run_here, ← next_pos] at hg
  have HG0 := Hid.intro hg
  clear KE hw hO hg
  have F0 := fld0; have F1 := fld1; have F2 := fld2; have F3 := fld3
  go_enter Tryz.func149, Tryz.ntmps149
  go_wp2_with fail
  refine (peek_any Z R en ts _ (HW.out.below (by repeat (first | with_reducible exact Below.refl _ _ | with_reducible refine Below.alloc ?_ (by first | omega | (simp; done) | (simp; omega)) _ | with_reducible refine Below.drew ?_ | with_reducible refine Below.setCell ?_ (by first | (dsimp only; omega) | (simp; omega)) _ )))).mono ?_
  rintro e w1 ⟨rfl, hp1⟩
  have hb1 := But.of (R := R) hp1
  unfold tkV
  have l1 := hb1.size
  (try simp at l1)
  obtain ⟨⟨q1_0, q1_1, q1_2, q1_3, q1_4, q1_5⟩, q1_f, q1_l⟩ := keep6 hb1 (w.heap.size) (by first | omega | (simp; done) | (simp; omega)) (.int .i64 0) (.string ⟨#[]⟩) (.string ⟨#[]⟩) (.int .i64 0) (.int .i64 0) (.slice none 0 0) (by first | omega | (simp; done) | (simp; omega)) (by go_simp) (by go_simp) (by go_simp) (by go_simp) (by go_simp) (by go_simp) (by go_simp)
  have q1_f0 := q1_f 0
  have q1_f1 := q1_f 1
  have q1_f2 := q1_f 2
  have q1_f3 := q1_f 3
  have q1_f4 := q1_f 4
  have q1_f5 := q1_f 5
  have HS1 : Hid (St Z R en w1 ts) := Hid.intro (St.to (HW.out.below (by repeat (first | with_reducible exact Below.refl _ _ | with_reducible refine Below.alloc ?_ (by first | omega | (simp; done) | (simp; omega)) _ | with_reducible refine Below.drew ?_ | with_reducible refine Below.setCell ?_ (by first | (dsimp only; omega) | (simp; omega)) _ ))) hp1)
  clear hp1
  generalize hnt : nextT en ts = t at *
  clear hnt
  go_wp2_with fail
  refine (name_step _ (HS1.out.below (by repeat (first | with_reducible exact Below.refl _ _ | with_reducible refine Below.alloc ?_ (by first | omega | (simp; done) | (simp; omega)) _ | with_reducible refine Below.drew ?_ | with_reducible refine Below.setCell ?_ (by first | (dsimp only; omega) | (simp; omega)) _ ))) HG0.out).mono ?_
  rintro e w2 ⟨hb2, ⟨t2, r2, rfl, hs, hG⟩ | ⟨c, p, rfl, hG⟩⟩
  rotate_left
  · exact ⟨rfl, (by repeat (first | with_reducible exact But.refl _ _ | with_reducible refine But.alloc ?_ _ | with_reducible refine But.drew ?_ | with_reducible refine But.setCell ?_ (by first | (left; dsimp only; omega) | (left; simp; omega)) _ | with_reducible refine But.trans ?_ (by assumption) | with_reducible refine But.below ?_ (by assumption))), Or.inr ⟨c, p, rfl, hG⟩⟩
  have l2 := hb2.size
  (try simp at l2)
  obtain ⟨⟨q2_0, q2_1, q2_2, q2_3, q2_4, q2_5⟩, q2_f, q2_l⟩ := keep6 hb2 (w.heap.size) (by first | omega | (simp; done) | (simp; omega)) (.int .i64 0) (.string ⟨#[]⟩) (.string ⟨#[]⟩) (.int .i64 0) (.int .i64 0) (.slice none 0 0) (by first | omega | (simp; done) | (simp; omega)) (by go_simp) (by go_simp) (by go_simp) (by go_simp) (by go_simp) (by go_simp) (by go_simp)
  have q2_f0 := q2_f 0
  have q2_f1 := q2_f 1
  have q2_f2 := q2_f 2
  have q2_f3 := q2_f 3
  have q2_f4 := q2_f 4
  have q2_f5 := q2_f 5
  clear q1_0 q1_1 q1_2 q1_3 q1_4 q1_5 q1_f0 q1_f1 q1_f2 q1_f3 q1_f4 q1_f5 q1_f
  have HG2 := Hid.intro hG
  have HS2 := Hid.intro hs
  clear hG hs
  go_wp2_with fail
  refine (must_step ⟨#[58, 61]⟩ (by decide) _ (HS2.out.below (by repeat (first | with_reducible exact Below.refl _ _ | with_reducible refine Below.alloc ?_ (by first | omega | (simp; done) | (simp; omega)) _ | with_reducible refine Below.drew ?_ | with_reducible refine Below.setCell ?_ (by first | (dsimp only; omega) | (simp; omega)) _ ))) HG2.out).mono ?_
  rintro e w3 ⟨hb3, ⟨t3, r3, rfl, hs, hG⟩ | ⟨c, p, rfl, hG⟩⟩
  rotate_left
  · exact ⟨rfl, (by repeat (first | with_reducible exact But.refl _ _ | with_reducible refine But.alloc ?_ _ | with_reducible refine But.drew ?_ | with_reducible refine But.setCell ?_ (by first | (left; dsimp only; omega) | (left; simp; omega)) _ | with_reducible refine But.trans ?_ (by assumption) | with_reducible refine But.below ?_ (by assumption))), Or.inr ⟨c, p, rfl, hG⟩⟩
  have l3 := hb3.size
  (try simp at l3)
  obtain ⟨⟨q3_0, q3_1, q3_2, q3_3, q3_4, q3_5⟩, q3_f, q3_l⟩ := keep6 hb3 (w.heap.size) (by first | omega | (simp; done) | (simp; omega)) (.int .i64 0) (.string ⟨#[]⟩) (.string ⟨#[]⟩) (.int .i64 0) (.int .i64 0) (.slice none 0 0) (by first | omega | (simp; done) | (simp; omega)) (by go_simp) (by go_simp) (by go_simp) (by go_simp) (by go_simp) (by go_simp) (by go_simp)
  have q3_f0 := q3_f 0
  have q3_f1 := q3_f 1
  have q3_f2 := q3_f 2
  have q3_f3 := q3_f 3
  have q3_f4 := q3_f 4
  have q3_f5 := q3_f 5
  clear q2_0 q2_1 q2_2 q2_3 q2_4 q2_5 q2_f0 q2_f1 q2_f2 q2_f3 q2_f4 q2_f5 q2_f
  have HG3 := Hid.intro hG
  have HS3 := Hid.intro hs
  clear hG hs
  go_wp2_with fail
  refine (HKE.out _ _ _ _ (HS3.out.below (by repeat (first | with_reducible exact Below.refl _ _ | with_reducible refine Below.alloc ?_ (by first | omega | (simp; done) | (simp; omega)) _ | with_reducible refine Below.drew ?_ | with_reducible refine Below.setCell ?_ (by first | (dsimp only; omega) | (simp; omega)) _ ))) HO.out HG3.out).mono ?_
  rintro e w4 ⟨hb4, ⟨v4, x4, r4, rfl, hx4, hs, hG⟩ | ⟨c, p, rfl, hG⟩⟩
  rotate_left
  · exact ⟨rfl, (by repeat (first | with_reducible exact But.refl _ _ | with_reducible refine But.alloc ?_ _ | with_reducible refine But.drew ?_ | with_reducible refine But.setCell ?_ (by first | (left; dsimp only; omega) | (left; simp; omega)) _ | with_reducible refine But.trans ?_ (by assumption) | with_reducible refine But.below ?_ (by assumption))), Or.inr ⟨c, p, rfl, hG⟩⟩
  obtain ⟨nn4, tx4, ox4, a4, ln4, cp4, rfl, htx4⟩ := hx4.form2
  have HX4 := Hid.intro hx4
  have HT4 := Hid.intro htx4
  clear hx4 htx4
  have l4 := hb4.size
  (try simp at l4)
  obtain ⟨⟨q4_0, q4_1, q4_2, q4_3, q4_4, q4_5⟩, q4_f, q4_l⟩ := keep6 hb4 (w.heap.size) (by first | omega | (simp; done) | (simp; omega)) (.int .i64 0) (.string ⟨#[]⟩) (.string ⟨#[]⟩) (.int .i64 0) (.int .i64 0) (.slice none 0 0) (by first | omega | (simp; done) | (simp; omega)) (by go_simp) (by go_simp) (by go_simp) (by go_simp) (by go_simp) (by go_simp) (by go_simp)
  have q4_f0 := q4_f 0
  have q4_f1 := q4_f 1
  have q4_f2 := q4_f 2
  have q4_f3 := q4_f 3
  have q4_f4 := q4_f 4
  have q4_f5 := q4_f 5
  clear q3_0 q3_1 q3_2 q3_3 q3_4 q3_5 q3_f0 q3_f1 q3_f2 q3_f3 q3_f4 q3_f5 q3_f
  have HG4 := Hid.intro hG
  have HS4 := Hid.intro hs
  clear hG hs
  go_wp2
  refine bodyPost_ret (v := .agg #[.int .i64 11, .string ⟨(t2.text).toArray⟩, .string ⟨#[]⟩, .int .i64 0, .int .i64 (t.pos : Nat), .slice (some ⟨w4.heap.size, 0, none⟩) 1 1]) (by simp [results, Tryz.results149, go_sem, *]) rfl ⟨(by repeat (first | with_reducible exact But.refl _ _ | with_reducible refine But.alloc ?_ _ | with_reducible refine But.drew ?_ | with_reducible refine But.setCell ?_ (by first | (left; dsimp only; omega) | (left; simp; omega)) _ | with_reducible refine But.trans ?_ (by assumption) | with_reducible refine But.below ?_ (by assumption))), Or.inl ⟨_, _, _, rfl, ?_, (HS4.out.below (by repeat (first | with_reducible exact Below.refl _ _ | with_reducible refine Below.alloc ?_ (by first | omega | (simp; done) | (simp; omega)) _ | with_reducible refine Below.drew ?_ | with_reducible refine Below.setCell ?_ (by first | (dsimp only; omega) | (simp; omega)) _ ))), HG4.out.symm⟩⟩
  refine ex_one (k := 11) (t := t2.text) (o := []) (n := 0) (p := t.pos) (u1 := .agg #[.int .i64 (x4.kind : Int), .string tx4, .string ox4, .int .i64 nn4, .int .i64 (x4.pl : Int), .slice a4 ln4 cp4]) (by first | omega | (simp; done) | (simp; omega)) (by first | omega | (simp; done) | (simp; omega)) ?_ ((HX4.out.keep (by repeat (first | with_reducible exact Kept.refl _ _ | with_reducible refine Kept.alloc ?_ _ | with_reducible refine Kept.drew ?_ | with_reducible refine Kept.setCell ?_ (by first | (left; dsimp only; omega) | (right; dsimp only; omega) | (left; simp; omega) | (right; simp; omega)) _ | with_reducible refine Kept.but ?_ (by assumption) (by first | omega | (simp; omega)) | with_reducible refine Kept.below ?_ (by assumption)))).low (by first | omega | (simp; done) | (simp; omega)))
  all_goals
    refine six ?_ ?_ ?_ ?_ ?_ ?_
    all_goals first | (go_simp; done) | (go_simp; rfl)
end Go.Proofs.YtkljakeccfnakaaGreatDoor

namespace Go.Proofs.YtkljakeccfnakaaGreatDoor
open Go.RowKit

set_option maxHeartbeats 8000000 in
theorem named_reads {Z R en f : Nat} (KE : Reads Z R en f 130 .expr) (t0 : Tok) : ReadsA Z R en f 180 #[tkV t0] (namedC t0) := by
  intro ts O w hw hO hg
  have lz : Z ≤ w.heap.size := hw.size
  have lr : R < Z := hw.rz
  have HO := Hid.intro hO
  have HW := Hid.intro hw
  have HKE := Hid.intro KE
  rw [namedC] at hg
  have HG0 := Hid.intro hg
  clear KE hw hO hg
  have F0 := fld0; have F1 := fld1; have F2 := fld2; have F3 := fld3
  unfold tkV
  go_enter Tryz.func180, Tryz.ntmps180
  go_wp2_with fail
  refine (may_step ⟨#[46, 91]⟩ (by decide) _ (HW.out.below (by repeat (first | with_reducible exact Below.refl _ _ | with_reducible refine Below.alloc ?_ (by first | omega | (simp; done) | (simp; omega)) _ | with_reducible refine Below.drew ?_ | with_reducible refine Below.setCell ?_ (by first | (dsimp only; omega) | (simp; omega)) _ ))) HG0.out).mono ?_
  rintro e w1 ⟨hb1, ⟨rfl, r1, hs, hG⟩ | ⟨rfl, hs, hG⟩⟩
  · have l1 := hb1.size
    (try simp at l1)
    obtain ⟨⟨q1_0, q1_1, q1_2, q1_3⟩, q1_f, q1_l⟩ := keep4 hb1 (w.heap.size) (by first | omega | (simp; done) | (simp; omega)) (.int .i64 (t0.kind : Nat)) (.string ⟨t0.text.toArray⟩) (.int .i64 (t0.val : Nat)) (.int .i64 (t0.pos : Nat)) (by first | omega | (simp; done) | (simp; omega)) (by go_simp) (by go_simp) (by go_simp) (by go_simp) (by go_simp)
    have q1_f0 := q1_f 0
    have q1_f1 := q1_f 1
    have q1_f2 := q1_f 2
    have q1_f3 := q1_f 3
    obtain ⟨⟨q2_0, q2_1, q2_2, q2_3, q2_4, q2_5⟩, q2_f, q2_l⟩ := keep6 hb1 (w.heap.size + 1) (by first | omega | (simp; done) | (simp; omega)) (.int .i64 0) (.string ⟨#[]⟩) (.string ⟨#[]⟩) (.int .i64 0) (.int .i64 0) (.slice none 0 0) (by first | omega | (simp; done) | (simp; omega)) (by go_simp) (by go_simp) (by go_simp) (by go_simp) (by go_simp) (by go_simp) (by go_simp)
    have q2_f0 := q2_f 0
    have q2_f1 := q2_f 1
    have q2_f2 := q2_f 2
    have q2_f3 := q2_f 3
    have q2_f4 := q2_f 4
    have q2_f5 := q2_f 5
    have HG1 := Hid.intro hG
    have HS1 := Hid.intro hs
    clear hG hs
    go_wp2_with fail
    refine (HKE.out _ _ _ _ (HS1.out.below (by repeat (first | with_reducible exact Below.refl _ _ | with_reducible refine Below.alloc ?_ (by first | omega | (simp; done) | (simp; omega)) _ | with_reducible refine Below.drew ?_ | with_reducible refine Below.setCell ?_ (by first | (dsimp only; omega) | (simp; omega)) _ ))) HO.out HG1.out).mono ?_
    rintro e w2 ⟨hb2, ⟨v2, x2, r2, rfl, hx2, hs, hG⟩ | ⟨c, p, rfl, hG⟩⟩
    rotate_left
    · exact ⟨rfl, (by repeat (first | with_reducible exact But.refl _ _ | with_reducible refine But.alloc ?_ _ | with_reducible refine But.drew ?_ | with_reducible refine But.setCell ?_ (by first | (left; dsimp only; omega) | (left; simp; omega)) _ | with_reducible refine But.trans ?_ (by assumption) | with_reducible refine But.below ?_ (by assumption))), Or.inr ⟨c, p, rfl, hG⟩⟩
    obtain ⟨nn2, tx2, ox2, a2, ln2, cp2, rfl, htx2⟩ := hx2.form2
    have HX2 := Hid.intro hx2
    have HT2 := Hid.intro htx2
    clear hx2 htx2
    have l2 := hb2.size
    (try simp at l2)
    obtain ⟨⟨q3_0, q3_1, q3_2, q3_3⟩, q3_f, q3_l⟩ := keep4 hb2 (w.heap.size) (by first | omega | (simp; done) | (simp; omega)) (.int .i64 (t0.kind : Nat)) (.string ⟨t0.text.toArray⟩) (.int .i64 (t0.val : Nat)) (.int .i64 (t0.pos : Nat)) (by first | omega | (simp; done) | (simp; omega)) (by go_simp) (by go_simp) (by go_simp) (by go_simp) (by go_simp)
    have q3_f0 := q3_f 0
    have q3_f1 := q3_f 1
    have q3_f2 := q3_f 2
    have q3_f3 := q3_f 3
    obtain ⟨⟨q4_0, q4_1, q4_2, q4_3, q4_4, q4_5⟩, q4_f, q4_l⟩ := keep6 hb2 (w.heap.size + 1) (by first | omega | (simp; done) | (simp; omega)) (.int .i64 0) (.string ⟨#[]⟩) (.string ⟨#[]⟩) (.int .i64 0) (.int .i64 0) (.slice none 0 0) (by first | omega | (simp; done) | (simp; omega)) (by go_simp) (by go_simp) (by go_simp) (by go_simp) (by go_simp) (by go_simp) (by go_simp)
    have q4_f0 := q4_f 0
    have q4_f1 := q4_f 1
    have q4_f2 := q4_f 2
    have q4_f3 := q4_f 3
    have q4_f4 := q4_f 4
    have q4_f5 := q4_f 5
    clear q1_0 q1_1 q1_2 q1_3 q1_f0 q1_f1 q1_f2 q1_f3 q1_f
    clear q2_0 q2_1 q2_2 q2_3 q2_4 q2_5 q2_f0 q2_f1 q2_f2 q2_f3 q2_f4 q2_f5 q2_f
    have HG2 := Hid.intro hG
    have HS2 := Hid.intro hs
    clear hG hs
    go_wp2_with fail
    refine (must_step ⟨#[93]⟩ (by decide) _ (HS2.out.below (by repeat (first | with_reducible exact Below.refl _ _ | with_reducible refine Below.alloc ?_ (by first | omega | (simp; done) | (simp; omega)) _ | with_reducible refine Below.drew ?_ | with_reducible refine Below.setCell ?_ (by first | (dsimp only; omega) | (simp; omega)) _ ))) HG2.out).mono ?_
    rintro e w3 ⟨hb3, ⟨t3, r3, rfl, hs, hG⟩ | ⟨c, p, rfl, hG⟩⟩
    rotate_left
    · exact ⟨rfl, (by repeat (first | with_reducible exact But.refl _ _ | with_reducible refine But.alloc ?_ _ | with_reducible refine But.drew ?_ | with_reducible refine But.setCell ?_ (by first | (left; dsimp only; omega) | (left; simp; omega)) _ | with_reducible refine But.trans ?_ (by assumption) | with_reducible refine But.below ?_ (by assumption))), Or.inr ⟨c, p, rfl, hG⟩⟩
    have l3 := hb3.size
    (try simp at l3)
    obtain ⟨⟨q5_0, q5_1, q5_2, q5_3⟩, q5_f, q5_l⟩ := keep4 hb3 (w.heap.size) (by first | omega | (simp; done) | (simp; omega)) (.int .i64 (t0.kind : Nat)) (.string ⟨t0.text.toArray⟩) (.int .i64 (t0.val : Nat)) (.int .i64 (t0.pos : Nat)) (by first | omega | (simp; done) | (simp; omega)) (by go_simp) (by go_simp) (by go_simp) (by go_simp) (by go_simp)
    have q5_f0 := q5_f 0
    have q5_f1 := q5_f 1
    have q5_f2 := q5_f 2
    have q5_f3 := q5_f 3
    obtain ⟨⟨q6_0, q6_1, q6_2, q6_3, q6_4, q6_5⟩, q6_f, q6_l⟩ := keep6 hb3 (w.heap.size + 1) (by first | omega | (simp; done) | (simp; omega)) (.int .i64 0) (.string ⟨#[]⟩) (.string ⟨#[]⟩) (.int .i64 0) (.int .i64 0) (.slice none 0 0) (by first | omega | (simp; done) | (simp; omega)) (by go_simp) (by go_simp) (by go_simp) (by go_simp) (by go_simp) (by go_simp) (by go_simp)
    have q6_f0 := q6_f 0
    have q6_f1 := q6_f 1
    have q6_f2 := q6_f 2
    have q6_f3 := q6_f 3
    have q6_f4 := q6_f 4
    have q6_f5 := q6_f 5
    obtain ⟨⟨q7_0, q7_1, q7_2, q7_3, q7_4, q7_5⟩, q7_f, q7_l⟩ := keep6 hb3 (w2.heap.size) (by first | omega | (simp; done) | (simp; omega)) (.int .i64 (x2.kind : Int)) (.string tx2) (.string ox2) (.int .i64 nn2) (.int .i64 (x2.pl : Int)) (.slice a2 ln2 cp2) (by first | omega | (simp; done) | (simp; omega)) (by go_simp) (by go_simp) (by go_simp) (by go_simp) (by go_simp) (by go_simp) (by go_simp)
    have q7_f0 := q7_f 0
    have q7_f1 := q7_f 1
    have q7_f2 := q7_f 2
    have q7_f3 := q7_f 3
    have q7_f4 := q7_f 4
    have q7_f5 := q7_f 5
    clear q3_0 q3_1 q3_2 q3_3 q3_f0 q3_f1 q3_f2 q3_f3 q3_f
    clear q4_0 q4_1 q4_2 q4_3 q4_4 q4_5 q4_f0 q4_f1 q4_f2 q4_f3 q4_f4 q4_f5 q4_f
    have HG3 := Hid.intro hG
    have HS3 := Hid.intro hs
    clear hG hs
    go_wp2
    refine bodyPost_ret (v := .agg #[.int .i64 12, .string ⟨(t0.text).toArray⟩, .string ⟨#[]⟩, .int .i64 0, .int .i64 (t0.pos : Nat), .slice (some ⟨w3.heap.size, 0, none⟩) 1 1]) (by simp [results, Tryz.results180, go_sem, *]) rfl ⟨(by repeat (first | with_reducible exact But.refl _ _ | with_reducible refine But.alloc ?_ _ | with_reducible refine But.drew ?_ | with_reducible refine But.setCell ?_ (by first | (left; dsimp only; omega) | (left; simp; omega)) _ | with_reducible refine But.trans ?_ (by assumption) | with_reducible refine But.below ?_ (by assumption))), Or.inl ⟨_, _, _, rfl, ?_, (HS3.out.below (by repeat (first | with_reducible exact Below.refl _ _ | with_reducible refine Below.alloc ?_ (by first | omega | (simp; done) | (simp; omega)) _ | with_reducible refine Below.drew ?_ | with_reducible refine Below.setCell ?_ (by first | (dsimp only; omega) | (simp; omega)) _ ))), HG3.out.symm⟩⟩
    refine ex_one (k := 12) (t := t0.text) (o := []) (n := 0) (p := t0.pos) (u1 := .agg #[.int .i64 (x2.kind : Int), .string tx2, .string ox2, .int .i64 nn2, .int .i64 (x2.pl : Int), .slice a2 ln2 cp2]) (by first | omega | (simp; done) | (simp; omega)) (by first | omega | (simp; done) | (simp; omega)) ?_ ((HX2.out.keep (by repeat (first | with_reducible exact Kept.refl _ _ | with_reducible refine Kept.alloc ?_ _ | with_reducible refine Kept.drew ?_ | with_reducible refine Kept.setCell ?_ (by first | (left; dsimp only; omega) | (right; dsimp only; omega) | (left; simp; omega) | (right; simp; omega)) _ | with_reducible refine Kept.but ?_ (by assumption) (by first | omega | (simp; omega)) | with_reducible refine Kept.below ?_ (by assumption)))).low (by first | omega | (simp; done) | (simp; omega)))
    all_goals
      refine six ?_ ?_ ?_ ?_ ?_ ?_
      all_goals first | (go_simp; done) | (go_simp; rfl)
  · have l1 := hb1.size
    (try simp at l1)
    obtain ⟨⟨q8_0, q8_1, q8_2, q8_3⟩, q8_f, q8_l⟩ := keep4 hb1 (w.heap.size) (by first | omega | (simp; done) | (simp; omega)) (.int .i64 (t0.kind : Nat)) (.string ⟨t0.text.toArray⟩) (.int .i64 (t0.val : Nat)) (.int .i64 (t0.pos : Nat)) (by first | omega | (simp; done) | (simp; omega)) (by go_simp) (by go_simp) (by go_simp) (by go_simp) (by go_simp)
    have q8_f0 := q8_f 0
    have q8_f1 := q8_f 1
    have q8_f2 := q8_f 2
    have q8_f3 := q8_f 3
    obtain ⟨⟨q9_0, q9_1, q9_2, q9_3, q9_4, q9_5⟩, q9_f, q9_l⟩ := keep6 hb1 (w.heap.size + 1) (by first | omega | (simp; done) | (simp; omega)) (.int .i64 0) (.string ⟨#[]⟩) (.string ⟨#[]⟩) (.int .i64 0) (.int .i64 0) (.slice none 0 0) (by first | omega | (simp; done) | (simp; omega)) (by go_simp) (by go_simp) (by go_simp) (by go_simp) (by go_simp) (by go_simp) (by go_simp)
    have q9_f0 := q9_f 0
    have q9_f1 := q9_f 1
    have q9_f2 := q9_f 2
    have q9_f3 := q9_f 3
    have q9_f4 := q9_f 4
    have q9_f5 := q9_f 5
    have HG1 := Hid.intro hG
    have HS1 := Hid.intro hs
    clear hG hs
    go_wp2
    refine bodyPost_ret (v := .agg #[.int .i64 4, .string ⟨(t0.text).toArray⟩, .string ⟨#[]⟩, .int .i64 0, .int .i64 (t0.pos : Nat), .slice none 0 0]) (by simp [results, Tryz.results180, go_sem, *]) rfl ⟨(by repeat (first | with_reducible exact But.refl _ _ | with_reducible refine But.alloc ?_ _ | with_reducible refine But.drew ?_ | with_reducible refine But.setCell ?_ (by first | (left; dsimp only; omega) | (left; simp; omega)) _ | with_reducible refine But.trans ?_ (by assumption) | with_reducible refine But.below ?_ (by assumption))), Or.inl ⟨_, _, _, rfl, ?_, (HS1.out.below (by repeat (first | with_reducible exact Below.refl _ _ | with_reducible refine Below.alloc ?_ (by first | omega | (simp; done) | (simp; omega)) _ | with_reducible refine Below.drew ?_ | with_reducible refine Below.setCell ?_ (by first | (dsimp only; omega) | (simp; omega)) _ ))), HG1.out.symm⟩⟩
    exact ExV.leaf 4 t0.text [] 0 (t0.pos)

set_option maxHeartbeats 8000000 in
theorem inside_reads {Z R en f : Nat} (KS : Reads Z R en f 107 .seq) (p0 : Nat) : ReadsA Z R en f 179 #[.int .i64 (p0 : Nat)] (insideC p0) := by
  intro ts O w hw hO hg
  have lz : Z ≤ w.heap.size := hw.size
  have lr : R < Z := hw.rz
  have HO := Hid.intro hO
  have HW := Hid.intro hw
  have HKS := Hid.intro KS
  rw [insideC] at hg
  have HG0 := Hid.intro hg
  clear KS hw hO hg
  have F0 := fld0; have F1 := fld1; have F2 := fld2; have F3 := fld3
  go_enter Tryz.func179, Tryz.ntmps179
  go_wp2_with fail
  refine (may_step ⟨#[41]⟩ (by decide) _ (HW.out.below (by repeat (first | with_reducible exact Below.refl _ _ | with_reducible refine Below.alloc ?_ (by first | omega | (simp; done) | (simp; omega)) _ | with_reducible refine Below.drew ?_ | with_reducible refine Below.setCell ?_ (by first | (dsimp only; omega) | (simp; omega)) _ ))) HG0.out).mono ?_
  rintro e w1 ⟨hb1, ⟨rfl, r1, hs, hG⟩ | ⟨rfl, hs, hG⟩⟩
  · have l1 := hb1.size
    (try simp at l1)
    obtain ⟨⟨q1_0, q1_1, q1_2, q1_3, q1_4, q1_5⟩, q1_f, q1_l⟩ := keep6 hb1 (w.heap.size) (by first | omega | (simp; done) | (simp; omega)) (.int .i64 0) (.string ⟨#[]⟩) (.string ⟨#[]⟩) (.int .i64 0) (.int .i64 0) (.slice none 0 0) (by first | omega | (simp; done) | (simp; omega)) (by go_simp) (by go_simp) (by go_simp) (by go_simp) (by go_simp) (by go_simp) (by go_simp)
    have q1_f0 := q1_f 0
    have q1_f1 := q1_f 1
    have q1_f2 := q1_f 2
    have q1_f3 := q1_f 3
    have q1_f4 := q1_f 4
    have q1_f5 := q1_f 5
    have HG1 := Hid.intro hG
    have HS1 := Hid.intro hs
    clear hG hs
    go_wp2
    refine bodyPost_ret (v := .agg #[.int .i64 3, .string ⟨#[]⟩, .string ⟨#[]⟩, .int .i64 0, .int .i64 (p0 : Nat), .slice none 0 0]) (by simp [results, Tryz.results179, go_sem, *]) rfl ⟨(by repeat (first | with_reducible exact But.refl _ _ | with_reducible refine But.alloc ?_ _ | with_reducible refine But.drew ?_ | with_reducible refine But.setCell ?_ (by first | (left; dsimp only; omega) | (left; simp; omega)) _ | with_reducible refine But.trans ?_ (by assumption) | with_reducible refine But.below ?_ (by assumption))), Or.inl ⟨_, _, _, rfl, ?_, (HS1.out.below (by repeat (first | with_reducible exact Below.refl _ _ | with_reducible refine Below.alloc ?_ (by first | omega | (simp; done) | (simp; omega)) _ | with_reducible refine Below.drew ?_ | with_reducible refine Below.setCell ?_ (by first | (dsimp only; omega) | (simp; omega)) _ ))), HG1.out.symm⟩⟩
    exact ExV.leaf 3 [] [] 0 (p0)
  · have l1 := hb1.size
    (try simp at l1)
    obtain ⟨⟨q2_0, q2_1, q2_2, q2_3, q2_4, q2_5⟩, q2_f, q2_l⟩ := keep6 hb1 (w.heap.size) (by first | omega | (simp; done) | (simp; omega)) (.int .i64 0) (.string ⟨#[]⟩) (.string ⟨#[]⟩) (.int .i64 0) (.int .i64 0) (.slice none 0 0) (by first | omega | (simp; done) | (simp; omega)) (by go_simp) (by go_simp) (by go_simp) (by go_simp) (by go_simp) (by go_simp) (by go_simp)
    have q2_f0 := q2_f 0
    have q2_f1 := q2_f 1
    have q2_f2 := q2_f 2
    have q2_f3 := q2_f 3
    have q2_f4 := q2_f 4
    have q2_f5 := q2_f 5
    have HG1 := Hid.intro hG
    have HS1 := Hid.intro hs
    clear hG hs
    go_wp2_with fail
    refine (HKS.out _ _ _ _ (HS1.out.below (by repeat (first | with_reducible exact Below.refl _ _ | with_reducible refine Below.alloc ?_ (by first | omega | (simp; done) | (simp; omega)) _ | with_reducible refine Below.drew ?_ | with_reducible refine Below.setCell ?_ (by first | (dsimp only; omega) | (simp; omega)) _ ))) HO.out HG1.out).mono ?_
    rintro e w2 ⟨hb2, ⟨v2, x2, r2, rfl, hx2, hs, hG⟩ | ⟨c, p, rfl, hG⟩⟩
    rotate_left
    · exact ⟨rfl, (by repeat (first | with_reducible exact But.refl _ _ | with_reducible refine But.alloc ?_ _ | with_reducible refine But.drew ?_ | with_reducible refine But.setCell ?_ (by first | (left; dsimp only; omega) | (left; simp; omega)) _ | with_reducible refine But.trans ?_ (by assumption) | with_reducible refine But.below ?_ (by assumption))), Or.inr ⟨c, p, rfl, hG⟩⟩
    obtain ⟨nn2, tx2, ox2, a2, ln2, cp2, rfl, htx2⟩ := hx2.form2
    have HX2 := Hid.intro hx2
    have HT2 := Hid.intro htx2
    clear hx2 htx2
    have l2 := hb2.size
    (try simp at l2)
    obtain ⟨⟨q3_0, q3_1, q3_2, q3_3, q3_4, q3_5⟩, q3_f, q3_l⟩ := keep6 hb2 (w.heap.size) (by first | omega | (simp; done) | (simp; omega)) (.int .i64 0) (.string ⟨#[]⟩) (.string ⟨#[]⟩) (.int .i64 0) (.int .i64 0) (.slice none 0 0) (by first | omega | (simp; done) | (simp; omega)) (by go_simp) (by go_simp) (by go_simp) (by go_simp) (by go_simp) (by go_simp) (by go_simp)
    have q3_f0 := q3_f 0
    have q3_f1 := q3_f 1
    have q3_f2 := q3_f 2
    have q3_f3 := q3_f 3
    have q3_f4 := q3_f 4
    have q3_f5 := q3_f 5
    clear q2_0 q2_1 q2_2 q2_3 q2_4 q2_5 q2_f0 q2_f1 q2_f2 q2_f3 q2_f4 q2_f5 q2_f
    have HG2 := Hid.intro hG
    have HS2 := Hid.intro hs
    clear hG hs
    go_wp2_with fail
    refine (may_step ⟨#[44]⟩ (by decide) _ (HS2.out.below (by repeat (first | with_reducible exact Below.refl _ _ | with_reducible refine Below.alloc ?_ (by first | omega | (simp; done) | (simp; omega)) _ | with_reducible refine Below.drew ?_ | with_reducible refine Below.setCell ?_ (by first | (dsimp only; omega) | (simp; omega)) _ ))) HG2.out).mono ?_
    rintro e w3 ⟨hb3, ⟨rfl, r3, hs, hG⟩ | ⟨rfl, hs, hG⟩⟩
    · have l3 := hb3.size
      (try simp at l3)
      obtain ⟨⟨q4_0, q4_1, q4_2, q4_3, q4_4, q4_5⟩, q4_f, q4_l⟩ := keep6 hb3 (w.heap.size) (by first | omega | (simp; done) | (simp; omega)) (.int .i64 0) (.string ⟨#[]⟩) (.string ⟨#[]⟩) (.int .i64 0) (.int .i64 0) (.slice none 0 0) (by first | omega | (simp; done) | (simp; omega)) (by go_simp) (by go_simp) (by go_simp) (by go_simp) (by go_simp) (by go_simp) (by go_simp)
      have q4_f0 := q4_f 0
      have q4_f1 := q4_f 1
      have q4_f2 := q4_f 2
      have q4_f3 := q4_f 3
      have q4_f4 := q4_f 4
      have q4_f5 := q4_f 5
      obtain ⟨⟨q5_0, q5_1, q5_2, q5_3, q5_4, q5_5⟩, q5_f, q5_l⟩ := keep6 hb3 (w2.heap.size) (by first | omega | (simp; done) | (simp; omega)) (.int .i64 (x2.kind : Int)) (.string tx2) (.string ox2) (.int .i64 nn2) (.int .i64 (x2.pl : Int)) (.slice a2 ln2 cp2) (by first | omega | (simp; done) | (simp; omega)) (by go_simp) (by go_simp) (by go_simp) (by go_simp) (by go_simp) (by go_simp) (by go_simp)
      have q5_f0 := q5_f 0
      have q5_f1 := q5_f 1
      have q5_f2 := q5_f 2
      have q5_f3 := q5_f 3
      have q5_f4 := q5_f 4
      have q5_f5 := q5_f 5
      clear q3_0 q3_1 q3_2 q3_3 q3_4 q3_5 q3_f0 q3_f1 q3_f2 q3_f3 q3_f4 q3_f5 q3_f
      have HG3 := Hid.intro hG
      have HS3 := Hid.intro hs
      clear hG hs
      go_wp2_with fail
      have dd01 : w.heap.size ≠ w2.heap.size := by omega
      have dd10 : w2.heap.size ≠ w.heap.size := by omega
      go_region_with (first | (go_at_call 107; refine (HKS.out _ _ _ _ (HS3.out.below (by repeat (first | with_reducible exact Below.refl _ _ | with_reducible refine Below.alloc ?_ (by first | omega | (simp; done) | (simp; omega)) _ | with_reducible refine Below.drew ?_ | with_reducible refine Below.setCell ?_ (by first | (dsimp only; omega) | (simp; omega)) _ ))) HO.out HG3.out).mono ?_; rintro e w4 ⟨hb4, ⟨v4, x4, r4, rfl, hx4, hs, hG⟩ | ⟨c, p, rfl, hG⟩⟩; rotate_left; (exact ⟨rfl, (by repeat (first | with_reducible exact But.refl _ _ | with_reducible refine But.alloc ?_ _ | with_reducible refine But.drew ?_ | with_reducible refine But.setCell ?_ (by first | (left; dsimp only; omega) | (left; simp; omega)) _ | with_reducible refine But.trans ?_ (by assumption) | with_reducible refine But.below ?_ (by assumption))), Or.inr ⟨c, p, rfl, hG⟩⟩); obtain ⟨nn4, tx4, ox4, a4, ln4, cp4, rfl, htx4⟩ := hx4.form2; have HX4 := Hid.intro hx4; have HT4 := Hid.intro htx4; have HS4 := Hid.intro hs; have HG4 := Hid.intro hG; clear hx4 hs htx4 hG; have l4 := hb4.size; (try simp at l4); obtain ⟨⟨g40_0, g40_1, g40_2, g40_3, g40_4, g40_5⟩, g40_f, g40_l⟩ := keep6 hb4 (w.heap.size) (by first | omega | (simp; done) | (simp; omega)) (.int .i64 0) (.string ⟨#[]⟩) (.string ⟨#[]⟩) (.int .i64 0) (.int .i64 0) (.slice none 0 0) (by first | omega | (simp; done) | (simp; omega)) (by go_simp) (by go_simp) (by go_simp) (by go_simp) (by go_simp) (by go_simp) (by go_simp); have g40_f0 := g40_f 0; have g40_f1 := g40_f 1; have g40_f2 := g40_f 2; have g40_f3 := g40_f 3; have g40_f4 := g40_f 4; have g40_f5 := g40_f 5; obtain ⟨⟨g41_0, g41_1, g41_2, g41_3, g41_4, g41_5⟩, g41_f, g41_l⟩ := keep6 hb4 (w2.heap.size) (by first | omega | (simp; done) | (simp; omega)) (.int .i64 (x2.kind : Int)) (.string tx2) (.string ox2) (.int .i64 nn2) (.int .i64 (x2.pl : Int)) (.slice a2 ln2 cp2) (by first | omega | (simp; done) | (simp; omega)) (by go_simp) (by go_simp) (by go_simp) (by go_simp) (by go_simp) (by go_simp) (by go_simp); have g41_f0 := g41_f 0; have g41_f1 := g41_f 1; have g41_f2 := g41_f 2; have g41_f3 := g41_f 3; have g41_f4 := g41_f 4; have g41_f5 := g41_f 5))
      all_goals
        simp only [Exit.then]
        go_wp2_with fail
        refine (must_step ⟨#[41]⟩ (by decide) _ (HS4.out.below (by repeat (first | with_reducible exact Below.refl _ _ | with_reducible refine Below.alloc ?_ (by first | omega | (simp; done) | (simp; omega)) _ | with_reducible refine Below.drew ?_ | with_reducible refine Below.setCell ?_ (by first | (dsimp only; omega) | (simp; omega)) _ ))) HG4.out).mono ?_
        rintro e w5 ⟨hb5, ⟨t5, r5, rfl, hs, hG⟩ | ⟨c, p, rfl, hG⟩⟩
        rotate_left
        · exact ⟨rfl, (by repeat (first | with_reducible exact But.refl _ _ | with_reducible refine But.alloc ?_ _ | with_reducible refine But.drew ?_ | with_reducible refine But.setCell ?_ (by first | (left; dsimp only; omega) | (left; simp; omega)) _ | with_reducible refine But.trans ?_ (by assumption) | with_reducible refine But.below ?_ (by assumption))), Or.inr ⟨c, p, rfl, hG⟩⟩
        have l5 := hb5.size
        (try simp at l5)
        obtain ⟨⟨q6_0, q6_1, q6_2, q6_3, q6_4, q6_5⟩, q6_f, q6_l⟩ := keep6 hb5 (w.heap.size) (by first | omega | (simp; done) | (simp; omega)) (.int .i64 0) (.string ⟨#[]⟩) (.string ⟨#[]⟩) (.int .i64 0) (.int .i64 0) (.slice none 0 0) (by first | omega | (simp; done) | (simp; omega)) (by go_simp) (by go_simp) (by go_simp) (by go_simp) (by go_simp) (by go_simp) (by go_simp)
        have q6_f0 := q6_f 0
        have q6_f1 := q6_f 1
        have q6_f2 := q6_f 2
        have q6_f3 := q6_f 3
        have q6_f4 := q6_f 4
        have q6_f5 := q6_f 5
        obtain ⟨⟨q7_0, q7_1, q7_2, q7_3, q7_4, q7_5⟩, q7_f, q7_l⟩ := keep6 hb5 (w2.heap.size) (by first | omega | (simp; done) | (simp; omega)) (.int .i64 20) (.string ⟨#[]⟩) (.string ⟨#[]⟩) (.int .i64 0) (.int .i64 (p0 : Nat)) (.slice (some ⟨w4.heap.size, 0, none⟩) 2 2) (by first | omega | (simp; done) | (simp; omega)) (by go_simp) (by go_simp) (by go_simp) (by go_simp) (by go_simp) (by go_simp) (by go_simp)
        have q7_f0 := q7_f 0
        have q7_f1 := q7_f 1
        have q7_f2 := q7_f 2
        have q7_f3 := q7_f 3
        have q7_f4 := q7_f 4
        have q7_f5 := q7_f 5
        clear q4_0 q4_1 q4_2 q4_3 q4_4 q4_5 q4_f0 q4_f1 q4_f2 q4_f3 q4_f4 q4_f5 q4_f
        clear q5_0 q5_1 q5_2 q5_3 q5_4 q5_5 q5_f0 q5_f1 q5_f2 q5_f3 q5_f4 q5_f5 q5_f
        have HG5 := Hid.intro hG
        have HS5 := Hid.intro hs
        clear hG hs
        have HX99 : Hid (ExV w1.heap.size w5 (.agg #[.int .i64 20, .string ⟨#[]⟩, .string ⟨#[]⟩, .int .i64 0, .int .i64 (p0 : Nat), .slice (some ⟨w4.heap.size, 0, none⟩) 2 2]) (.mk 20 [] [] 0 p0 [x2, x4])) := Hid.intro (ExV.thru hb5 (by omega) (by
          refine ex_two (k := 20) (t := []) (o := []) (n := 0) (p := p0) (u1 := .agg #[.int .i64 (x2.kind : Int), .string tx2, .string ox2, .int .i64 nn2, .int .i64 (x2.pl : Int), .slice a2 ln2 cp2]) (u2 := .agg #[.int .i64 (x4.kind : Int), .string tx4, .string ox4, .int .i64 nn4, .int .i64 (x4.pl : Int), .slice a4 ln4 cp4]) (by first | omega | (simp; done) | (simp; omega)) (by first | omega | (simp; done) | (simp; omega)) ?_ ?_ ((HX2.out.keep (by repeat (first | with_reducible exact Kept.refl _ _ | with_reducible refine Kept.alloc ?_ _ | with_reducible refine Kept.drew ?_ | with_reducible refine Kept.setCell ?_ (by first | (left; dsimp only; omega) | (right; dsimp only; omega) | (left; simp; omega) | (right; simp; omega)) _ | with_reducible refine Kept.but ?_ (by assumption) (by first | omega | (simp; omega)) | with_reducible refine Kept.below ?_ (by assumption)))).low (by first | omega | (simp; done) | (simp; omega))) ((HX4.out.keep (by repeat (first | with_reducible exact Kept.refl _ _ | with_reducible refine Kept.alloc ?_ _ | with_reducible refine Kept.drew ?_ | with_reducible refine Kept.setCell ?_ (by first | (left; dsimp only; omega) | (right; dsimp only; omega) | (left; simp; omega) | (right; simp; omega)) _ | with_reducible refine Kept.but ?_ (by assumption) (by first | omega | (simp; omega)) | with_reducible refine Kept.below ?_ (by assumption)))).low (by first | omega | (simp; done) | (simp; omega)))
          all_goals
            refine six ?_ ?_ ?_ ?_ ?_ ?_
            all_goals first | (go_simp; done) | (go_simp; rfl)))
        go_wp2
        refine bodyPost_ret (v := .agg #[.int .i64 20, .string ⟨#[]⟩, .string ⟨#[]⟩, .int .i64 0, .int .i64 (p0 : Nat), .slice (some ⟨w4.heap.size, 0, none⟩) 2 2]) (by simp [results, Tryz.results179, go_sem, *]) rfl ⟨(by repeat (first | with_reducible exact But.refl _ _ | with_reducible refine But.alloc ?_ _ | with_reducible refine But.drew ?_ | with_reducible refine But.setCell ?_ (by first | (left; dsimp only; omega) | (left; simp; omega)) _ | with_reducible refine But.trans ?_ (by assumption) | with_reducible refine But.below ?_ (by assumption))), Or.inl ⟨_, _, _, rfl, ((HX99.out.keep (by repeat (first | with_reducible exact Kept.refl _ _ | with_reducible refine Kept.alloc ?_ _ | with_reducible refine Kept.drew ?_ | with_reducible refine Kept.setCell ?_ (by first | (left; dsimp only; omega) | (right; dsimp only; omega) | (left; simp; omega) | (right; simp; omega)) _ | with_reducible refine Kept.but ?_ (by assumption) (by first | omega | (simp; omega)) | with_reducible refine Kept.below ?_ (by assumption)))).low (by first | omega | (simp; done) | (simp; omega))), (HS5.out.below (by repeat (first | with_reducible exact Below.refl _ _ | with_reducible refine Below.alloc ?_ (by first | omega | (simp; done) | (simp; omega)) _ | with_reducible refine Below.drew ?_ | with_reducible refine Below.setCell ?_ (by first | (dsimp only; omega) | (simp; omega)) _ ))), HG5.out.symm⟩⟩
    · have l3 := hb3.size
      (try simp at l3)
      obtain ⟨⟨q8_0, q8_1, q8_2, q8_3, q8_4, q8_5⟩, q8_f, q8_l⟩ := keep6 hb3 (w.heap.size) (by first | omega | (simp; done) | (simp; omega)) (.int .i64 0) (.string ⟨#[]⟩) (.string ⟨#[]⟩) (.int .i64 0) (.int .i64 0) (.slice none 0 0) (by first | omega | (simp; done) | (simp; omega)) (by go_simp) (by go_simp) (by go_simp) (by go_simp) (by go_simp) (by go_simp) (by go_simp)
      have q8_f0 := q8_f 0
      have q8_f1 := q8_f 1
      have q8_f2 := q8_f 2
      have q8_f3 := q8_f 3
      have q8_f4 := q8_f 4
      have q8_f5 := q8_f 5
      obtain ⟨⟨q9_0, q9_1, q9_2, q9_3, q9_4, q9_5⟩, q9_f, q9_l⟩ := keep6 hb3 (w2.heap.size) (by first | omega | (simp; done) | (simp; omega)) (.int .i64 (x2.kind : Int)) (.string tx2) (.string ox2) (.int .i64 nn2) (.int .i64 (x2.pl : Int)) (.slice a2 ln2 cp2) (by first | omega | (simp; done) | (simp; omega)) (by go_simp) (by go_simp) (by go_simp) (by go_simp) (by go_simp) (by go_simp) (by go_simp)
      have q9_f0 := q9_f 0
      have q9_f1 := q9_f 1
      have q9_f2 := q9_f 2
      have q9_f3 := q9_f 3
      have q9_f4 := q9_f 4
      have q9_f5 := q9_f 5
      clear q3_0 q3_1 q3_2 q3_3 q3_4 q3_5 q3_f0 q3_f1 q3_f2 q3_f3 q3_f4 q3_f5 q3_f
      have HG3 := Hid.intro hG
      have HS3 := Hid.intro hs
      clear hG hs
      go_wp2_with fail
      refine (must_step ⟨#[41]⟩ (by decide) _ (HS3.out.below (by repeat (first | with_reducible exact Below.refl _ _ | with_reducible refine Below.alloc ?_ (by first | omega | (simp; done) | (simp; omega)) _ | with_reducible refine Below.drew ?_ | with_reducible refine Below.setCell ?_ (by first | (dsimp only; omega) | (simp; omega)) _ ))) HG3.out).mono ?_
      rintro e w6 ⟨hb6, ⟨t6, r6, rfl, hs, hG⟩ | ⟨c, p, rfl, hG⟩⟩
      rotate_left
      · exact ⟨rfl, (by repeat (first | with_reducible exact But.refl _ _ | with_reducible refine But.alloc ?_ _ | with_reducible refine But.drew ?_ | with_reducible refine But.setCell ?_ (by first | (left; dsimp only; omega) | (left; simp; omega)) _ | with_reducible refine But.trans ?_ (by assumption) | with_reducible refine But.below ?_ (by assumption))), Or.inr ⟨c, p, rfl, hG⟩⟩
      have l6 := hb6.size
      (try simp at l6)
      obtain ⟨⟨q10_0, q10_1, q10_2, q10_3, q10_4, q10_5⟩, q10_f, q10_l⟩ := keep6 hb6 (w.heap.size) (by first | omega | (simp; done) | (simp; omega)) (.int .i64 0) (.string ⟨#[]⟩) (.string ⟨#[]⟩) (.int .i64 0) (.int .i64 0) (.slice none 0 0) (by first | omega | (simp; done) | (simp; omega)) (by go_simp) (by go_simp) (by go_simp) (by go_simp) (by go_simp) (by go_simp) (by go_simp)
      have q10_f0 := q10_f 0
      have q10_f1 := q10_f 1
      have q10_f2 := q10_f 2
      have q10_f3 := q10_f 3
      have q10_f4 := q10_f 4
      have q10_f5 := q10_f 5
      obtain ⟨⟨q11_0, q11_1, q11_2, q11_3, q11_4, q11_5⟩, q11_f, q11_l⟩ := keep6 hb6 (w2.heap.size) (by first | omega | (simp; done) | (simp; omega)) (.int .i64 (x2.kind : Int)) (.string tx2) (.string ox2) (.int .i64 nn2) (.int .i64 (x2.pl : Int)) (.slice a2 ln2 cp2) (by first | omega | (simp; done) | (simp; omega)) (by go_simp) (by go_simp) (by go_simp) (by go_simp) (by go_simp) (by go_simp) (by go_simp)
      have q11_f0 := q11_f 0
      have q11_f1 := q11_f 1
      have q11_f2 := q11_f 2
      have q11_f3 := q11_f 3
      have q11_f4 := q11_f 4
      have q11_f5 := q11_f 5
      clear q8_0 q8_1 q8_2 q8_3 q8_4 q8_5 q8_f0 q8_f1 q8_f2 q8_f3 q8_f4 q8_f5 q8_f
      clear q9_0 q9_1 q9_2 q9_3 q9_4 q9_5 q9_f0 q9_f1 q9_f2 q9_f3 q9_f4 q9_f5 q9_f
      have HG6 := Hid.intro hG
      have HS6 := Hid.intro hs
      clear hG hs
      go_wp2
      refine bodyPost_ret (v := .agg #[.int .i64 (x2.kind : Int), .string tx2, .string ox2, .int .i64 nn2, .int .i64 (x2.pl : Int), .slice a2 ln2 cp2]) (by simp [results, Tryz.results179, go_sem, *]) rfl ⟨(by repeat (first | with_reducible exact But.refl _ _ | with_reducible refine But.alloc ?_ _ | with_reducible refine But.drew ?_ | with_reducible refine But.setCell ?_ (by first | (left; dsimp only; omega) | (left; simp; omega)) _ | with_reducible refine But.trans ?_ (by assumption) | with_reducible refine But.below ?_ (by assumption))), Or.inl ⟨_, x2, _, rfl, ((HX2.out.keep (by repeat (first | with_reducible exact Kept.refl _ _ | with_reducible refine Kept.alloc ?_ _ | with_reducible refine Kept.drew ?_ | with_reducible refine Kept.setCell ?_ (by first | (left; dsimp only; omega) | (right; dsimp only; omega) | (left; simp; omega) | (right; simp; omega)) _ | with_reducible refine Kept.but ?_ (by assumption) (by first | omega | (simp; omega)) | with_reducible refine Kept.below ?_ (by assumption)))).low (by first | omega | (simp; done) | (simp; omega))), (HS6.out.below (by repeat (first | with_reducible exact Below.refl _ _ | with_reducible refine Below.alloc ?_ (by first | omega | (simp; done) | (simp; omega)) _ | with_reducible refine Below.drew ?_ | with_reducible refine Below.setCell ?_ (by first | (dsimp only; omega) | (simp; omega)) _ ))), HG6.out.symm⟩⟩
end Go.Proofs.YtkljakeccfnakaaGreatDoor

namespace Go.Proofs.YtkljakeccfnakaaGreatDoor
open Go.RowKit

set_option maxHeartbeats 8000000 in
theorem pairs_reads {Z R en f : Nat} (KE : Reads Z R en f 130 .expr) (p0 : Nat) : ReadsX Z R en f 167 #[.int .i64 (p0 : Nat)] (pairsC p0) := by
  intro v0 x0 lo ts O w hw hlo hlw hx0 hO hg
  have lz : Z ≤ w.heap.size := hw.size
  have lr : R < Z := hw.rz
  have HO := Hid.intro hO
  have HW := Hid.intro hw
  obtain ⟨nn0, tx0, ox0, a0, ln0, cp0, rfl, htx0⟩ := hx0.form2
  have HX0 := Hid.intro hx0
  have HT0 := Hid.intro htx0
  have HKE := Hid.intro KE
  rw [pairsC] at hg
  have HG0 := Hid.intro hg
  clear KE hw hO hg hx0 htx0
  have F0 := fld0; have F1 := fld1; have F2 := fld2; have F3 := fld3
  go_enter Tryz.func167, Tryz.ntmps167
  go_wp2_with fail
  refine (name_step _ (HW.out.below (by repeat (first | with_reducible exact Below.refl _ _ | with_reducible refine Below.alloc ?_ (by first | omega | (simp; done) | (simp; omega)) _ | with_reducible refine Below.drew ?_ | with_reducible refine Below.setCell ?_ (by first | (dsimp only; omega) | (simp; omega)) _ ))) HG0.out).mono ?_
  rintro e w1 ⟨hb1, ⟨t1, r1, rfl, hs, hG⟩ | ⟨c, p, rfl, hG⟩⟩
  rotate_left
  · exact ⟨rfl, (by repeat (first | with_reducible exact But.refl _ _ | with_reducible refine But.alloc ?_ _ | with_reducible refine But.drew ?_ | with_reducible refine But.setCell ?_ (by first | (left; dsimp only; omega) | (left; simp; omega)) _ | with_reducible refine But.trans ?_ (by assumption) | with_reducible refine But.below ?_ (by assumption))), Or.inr ⟨c, p, rfl, hG⟩⟩
  have l1 := hb1.size
  (try simp at l1)
  obtain ⟨⟨q1_0, q1_1, q1_2, q1_3, q1_4, q1_5⟩, q1_f, q1_l⟩ := keep6 hb1 (w.heap.size) (by first | omega | (simp; done) | (simp; omega)) (.int .i64 (x0.kind : Int)) (.string tx0) (.string ox0) (.int .i64 nn0) (.int .i64 (x0.pl : Int)) (.slice a0 ln0 cp0) (by first | omega | (simp; done) | (simp; omega)) (by go_simp) (by go_simp) (by go_simp) (by go_simp) (by go_simp) (by go_simp) (by go_simp)
  have q1_f0 := q1_f 0
  have q1_f1 := q1_f 1
  have q1_f2 := q1_f 2
  have q1_f3 := q1_f 3
  have q1_f4 := q1_f 4
  have q1_f5 := q1_f 5
  obtain ⟨⟨q2_0, q2_1, q2_2, q2_3, q2_4, q2_5⟩, q2_f, q2_l⟩ := keep6 hb1 (w.heap.size + 1) (by first | omega | (simp; done) | (simp; omega)) (.int .i64 0) (.string ⟨#[]⟩) (.string ⟨#[]⟩) (.int .i64 0) (.int .i64 0) (.slice none 0 0) (by first | omega | (simp; done) | (simp; omega)) (by go_simp) (by go_simp) (by go_simp) (by go_simp) (by go_simp) (by go_simp) (by go_simp)
  have q2_f0 := q2_f 0
  have q2_f1 := q2_f 1
  have q2_f2 := q2_f 2
  have q2_f3 := q2_f 3
  have q2_f4 := q2_f 4
  have q2_f5 := q2_f 5
  have HG1 := Hid.intro hG
  have HS1 := Hid.intro hs
  clear hG hs
  go_wp2_with fail
  refine (must_step ⟨#[44]⟩ (by decide) _ (HS1.out.below (by repeat (first | with_reducible exact Below.refl _ _ | with_reducible refine Below.alloc ?_ (by first | omega | (simp; done) | (simp; omega)) _ | with_reducible refine Below.drew ?_ | with_reducible refine Below.setCell ?_ (by first | (dsimp only; omega) | (simp; omega)) _ ))) HG1.out).mono ?_
  rintro e w2 ⟨hb2, ⟨t2, r2, rfl, hs, hG⟩ | ⟨c, p, rfl, hG⟩⟩
  rotate_left
  · exact ⟨rfl, (by repeat (first | with_reducible exact But.refl _ _ | with_reducible refine But.alloc ?_ _ | with_reducible refine But.drew ?_ | with_reducible refine But.setCell ?_ (by first | (left; dsimp only; omega) | (left; simp; omega)) _ | with_reducible refine But.trans ?_ (by assumption) | with_reducible refine But.below ?_ (by assumption))), Or.inr ⟨c, p, rfl, hG⟩⟩
  have l2 := hb2.size
  (try simp at l2)
  obtain ⟨⟨q3_0, q3_1, q3_2, q3_3, q3_4, q3_5⟩, q3_f, q3_l⟩ := keep6 hb2 (w.heap.size) (by first | omega | (simp; done) | (simp; omega)) (.int .i64 (x0.kind : Int)) (.string tx0) (.string ox0) (.int .i64 nn0) (.int .i64 (x0.pl : Int)) (.slice a0 ln0 cp0) (by first | omega | (simp; done) | (simp; omega)) (by go_simp) (by go_simp) (by go_simp) (by go_simp) (by go_simp) (by go_simp) (by go_simp)
  have q3_f0 := q3_f 0
  have q3_f1 := q3_f 1
  have q3_f2 := q3_f 2
  have q3_f3 := q3_f 3
  have q3_f4 := q3_f 4
  have q3_f5 := q3_f 5
  obtain ⟨⟨q4_0, q4_1, q4_2, q4_3, q4_4, q4_5⟩, q4_f, q4_l⟩ := keep6 hb2 (w.heap.size + 1) (by first | omega | (simp; done) | (simp; omega)) (.int .i64 0) (.string ⟨#[]⟩) (.string ⟨#[]⟩) (.int .i64 0) (.int .i64 0) (.slice none 0 0) (by first | omega | (simp; done) | (simp; omega)) (by go_simp) (by go_simp) (by go_simp) (by go_simp) (by go_simp) (by go_simp) (by go_simp)
  have q4_f0 := q4_f 0
  have q4_f1 := q4_f 1
  have q4_f2 := q4_f 2
  have q4_f3 := q4_f 3
  have q4_f4 := q4_f 4
  have q4_f5 := q4_f 5
  clear q1_0 q1_1 q1_2 q1_3 q1_4 q1_5 q1_f0 q1_f1 q1_f2 q1_f3 q1_f4 q1_f5 q1_f
  clear q2_0 q2_1 q2_2 q2_3 q2_4 q2_5 q2_f0 q2_f1 q2_f2 q2_f3 q2_f4 q2_f5 q2_f
  have HG2 := Hid.intro hG
  have HS2 := Hid.intro hs
  clear hG hs
  go_wp2_with fail
  refine (name_step _ (HS2.out.below (by repeat (first | with_reducible exact Below.refl _ _ | with_reducible refine Below.alloc ?_ (by first | omega | (simp; done) | (simp; omega)) _ | with_reducible refine Below.drew ?_ | with_reducible refine Below.setCell ?_ (by first | (dsimp only; omega) | (simp; omega)) _ ))) HG2.out).mono ?_
  rintro e w3 ⟨hb3, ⟨t3, r3, rfl, hs, hG⟩ | ⟨c, p, rfl, hG⟩⟩
  rotate_left
  · exact ⟨rfl, (by repeat (first | with_reducible exact But.refl _ _ | with_reducible refine But.alloc ?_ _ | with_reducible refine But.drew ?_ | with_reducible refine But.setCell ?_ (by first | (left; dsimp only; omega) | (left; simp; omega)) _ | with_reducible refine But.trans ?_ (by assumption) | with_reducible refine But.below ?_ (by assumption))), Or.inr ⟨c, p, rfl, hG⟩⟩
  have l3 := hb3.size
  (try simp at l3)
  obtain ⟨⟨q5_0, q5_1, q5_2, q5_3, q5_4, q5_5⟩, q5_f, q5_l⟩ := keep6 hb3 (w.heap.size) (by first | omega | (simp; done) | (simp; omega)) (.int .i64 (x0.kind : Int)) (.string tx0) (.string ox0) (.int .i64 nn0) (.int .i64 (x0.pl : Int)) (.slice a0 ln0 cp0) (by first | omega | (simp; done) | (simp; omega)) (by go_simp) (by go_simp) (by go_simp) (by go_simp) (by go_simp) (by go_simp) (by go_simp)
  have q5_f0 := q5_f 0
  have q5_f1 := q5_f 1
  have q5_f2 := q5_f 2
  have q5_f3 := q5_f 3
  have q5_f4 := q5_f 4
  have q5_f5 := q5_f 5
  obtain ⟨⟨q6_0, q6_1, q6_2, q6_3, q6_4, q6_5⟩, q6_f, q6_l⟩ := keep6 hb3 (w.heap.size + 1) (by first | omega | (simp; done) | (simp; omega)) (.int .i64 0) (.string ⟨#[]⟩) (.string ⟨#[]⟩) (.int .i64 0) (.int .i64 0) (.slice none 0 0) (by first | omega | (simp; done) | (simp; omega)) (by go_simp) (by go_simp) (by go_simp) (by go_simp) (by go_simp) (by go_simp) (by go_simp)
  have q6_f0 := q6_f 0
  have q6_f1 := q6_f 1
  have q6_f2 := q6_f 2
  have q6_f3 := q6_f 3
  have q6_f4 := q6_f 4
  have q6_f5 := q6_f 5
  clear q3_0 q3_1 q3_2 q3_3 q3_4 q3_5 q3_f0 q3_f1 q3_f2 q3_f3 q3_f4 q3_f5 q3_f
  clear q4_0 q4_1 q4_2 q4_3 q4_4 q4_5 q4_f0 q4_f1 q4_f2 q4_f3 q4_f4 q4_f5 q4_f
  have HG3 := Hid.intro hG
  have HS3 := Hid.intro hs
  clear hG hs
  go_wp2_with fail
  refine (must_step ⟨#[41]⟩ (by decide) _ (HS3.out.below (by repeat (first | with_reducible exact Below.refl _ _ | with_reducible refine Below.alloc ?_ (by first | omega | (simp; done) | (simp; omega)) _ | with_reducible refine Below.drew ?_ | with_reducible refine Below.setCell ?_ (by first | (dsimp only; omega) | (simp; omega)) _ ))) HG3.out).mono ?_
  rintro e w4 ⟨hb4, ⟨t4, r4, rfl, hs, hG⟩ | ⟨c, p, rfl, hG⟩⟩
  rotate_left
  · exact ⟨rfl, (by repeat (first | with_reducible exact But.refl _ _ | with_reducible refine But.alloc ?_ _ | with_reducible refine But.drew ?_ | with_reducible refine But.setCell ?_ (by first | (left; dsimp only; omega) | (left; simp; omega)) _ | with_reducible refine But.trans ?_ (by assumption) | with_reducible refine But.below ?_ (by assumption))), Or.inr ⟨c, p, rfl, hG⟩⟩
  have l4 := hb4.size
  (try simp at l4)
  obtain ⟨⟨q7_0, q7_1, q7_2, q7_3, q7_4, q7_5⟩, q7_f, q7_l⟩ := keep6 hb4 (w.heap.size) (by first | omega | (simp; done) | (simp; omega)) (.int .i64 (x0.kind : Int)) (.string tx0) (.string ox0) (.int .i64 nn0) (.int .i64 (x0.pl : Int)) (.slice a0 ln0 cp0) (by first | omega | (simp; done) | (simp; omega)) (by go_simp) (by go_simp) (by go_simp) (by go_simp) (by go_simp) (by go_simp) (by go_simp)
  have q7_f0 := q7_f 0
  have q7_f1 := q7_f 1
  have q7_f2 := q7_f 2
  have q7_f3 := q7_f 3
  have q7_f4 := q7_f 4
  have q7_f5 := q7_f 5
  obtain ⟨⟨q8_0, q8_1, q8_2, q8_3, q8_4, q8_5⟩, q8_f, q8_l⟩ := keep6 hb4 (w.heap.size + 1) (by first | omega | (simp; done) | (simp; omega)) (.int .i64 0) (.string ⟨#[]⟩) (.string ⟨#[]⟩) (.int .i64 0) (.int .i64 0) (.slice none 0 0) (by first | omega | (simp; done) | (simp; omega)) (by go_simp) (by go_simp) (by go_simp) (by go_simp) (by go_simp) (by go_simp) (by go_simp)
  have q8_f0 := q8_f 0
  have q8_f1 := q8_f 1
  have q8_f2 := q8_f 2
  have q8_f3 := q8_f 3
  have q8_f4 := q8_f 4
  have q8_f5 := q8_f 5
  clear q5_0 q5_1 q5_2 q5_3 q5_4 q5_5 q5_f0 q5_f1 q5_f2 q5_f3 q5_f4 q5_f5 q5_f
  clear q6_0 q6_1 q6_2 q6_3 q6_4 q6_5 q6_f0 q6_f1 q6_f2 q6_f3 q6_f4 q6_f5 q6_f
  have HG4 := Hid.intro hG
  have HS4 := Hid.intro hs
  clear hG hs
  go_wp2_with fail
  refine (must_step ⟨#[45, 62]⟩ (by decide) _ (HS4.out.below (by repeat (first | with_reducible exact Below.refl _ _ | with_reducible refine Below.alloc ?_ (by first | omega | (simp; done) | (simp; omega)) _ | with_reducible refine Below.drew ?_ | with_reducible refine Below.setCell ?_ (by first | (dsimp only; omega) | (simp; omega)) _ ))) HG4.out).mono ?_
  rintro e w5 ⟨hb5, ⟨t5, r5, rfl, hs, hG⟩ | ⟨c, p, rfl, hG⟩⟩
  rotate_left
  · exact ⟨rfl, (by repeat (first | with_reducible exact But.refl _ _ | with_reducible refine But.alloc ?_ _ | with_reducible refine But.drew ?_ | with_reducible refine But.setCell ?_ (by first | (left; dsimp only; omega) | (left; simp; omega)) _ | with_reducible refine But.trans ?_ (by assumption) | with_reducible refine But.below ?_ (by assumption))), Or.inr ⟨c, p, rfl, hG⟩⟩
  have l5 := hb5.size
  (try simp at l5)
  obtain ⟨⟨q9_0, q9_1, q9_2, q9_3, q9_4, q9_5⟩, q9_f, q9_l⟩ := keep6 hb5 (w.heap.size) (by first | omega | (simp; done) | (simp; omega)) (.int .i64 (x0.kind : Int)) (.string tx0) (.string ox0) (.int .i64 nn0) (.int .i64 (x0.pl : Int)) (.slice a0 ln0 cp0) (by first | omega | (simp; done) | (simp; omega)) (by go_simp) (by go_simp) (by go_simp) (by go_simp) (by go_simp) (by go_simp) (by go_simp)
  have q9_f0 := q9_f 0
  have q9_f1 := q9_f 1
  have q9_f2 := q9_f 2
  have q9_f3 := q9_f 3
  have q9_f4 := q9_f 4
  have q9_f5 := q9_f 5
  obtain ⟨⟨q10_0, q10_1, q10_2, q10_3, q10_4, q10_5⟩, q10_f, q10_l⟩ := keep6 hb5 (w.heap.size + 1) (by first | omega | (simp; done) | (simp; omega)) (.int .i64 0) (.string ⟨#[]⟩) (.string ⟨#[]⟩) (.int .i64 0) (.int .i64 0) (.slice none 0 0) (by first | omega | (simp; done) | (simp; omega)) (by go_simp) (by go_simp) (by go_simp) (by go_simp) (by go_simp) (by go_simp) (by go_simp)
  have q10_f0 := q10_f 0
  have q10_f1 := q10_f 1
  have q10_f2 := q10_f 2
  have q10_f3 := q10_f 3
  have q10_f4 := q10_f 4
  have q10_f5 := q10_f 5
  clear q7_0 q7_1 q7_2 q7_3 q7_4 q7_5 q7_f0 q7_f1 q7_f2 q7_f3 q7_f4 q7_f5 q7_f
  clear q8_0 q8_1 q8_2 q8_3 q8_4 q8_5 q8_f0 q8_f1 q8_f2 q8_f3 q8_f4 q8_f5 q8_f
  have HG5 := Hid.intro hG
  have HS5 := Hid.intro hs
  clear hG hs
  go_wp2_with fail
  have dd01 : w.heap.size + 1 ≠ w.heap.size := by omega
  have dd10 : w.heap.size ≠ w.heap.size + 1 := by omega
  go_region_held (fun w' => w'.cell? ⟨w.heap.size, 0, none⟩ = some (.int .i64 (x0.kind : Int)) ∧ w'.cell? ⟨w.heap.size, 1, none⟩ = some (.string tx0) ∧ w'.cell? ⟨w.heap.size, 2, none⟩ = some (.string ox0) ∧ w'.cell? ⟨w.heap.size, 3, none⟩ = some (.int .i64 nn0) ∧ w'.cell? ⟨w.heap.size, 4, none⟩ = some (.int .i64 (x0.pl : Int)) ∧ w'.cell? ⟨w.heap.size, 5, none⟩ = some (.slice a0 ln0 cp0)) (go_keep)
    (first | (go_at_call 130; refine (HKE.out _ _ _ _ (HS5.out.below (by repeat (first | with_reducible exact Below.refl _ _ | with_reducible refine Below.alloc ?_ (by first | omega | (simp; done) | (simp; omega)) _ | with_reducible refine Below.drew ?_ | with_reducible refine Below.setCell ?_ (by first | (dsimp only; omega) | (simp; omega)) _ ))) HO.out HG5.out).mono ?_; rintro e w6 ⟨hb6, ⟨v6, x6, r6, rfl, hx6, hs, hG⟩ | ⟨c, p, rfl, hG⟩⟩; rotate_left; (exact ⟨rfl, (by repeat (first | with_reducible exact But.refl _ _ | with_reducible refine But.alloc ?_ _ | with_reducible refine But.drew ?_ | with_reducible refine But.setCell ?_ (by first | (left; dsimp only; omega) | (left; simp; omega)) _ | with_reducible refine But.trans ?_ (by assumption) | with_reducible refine But.below ?_ (by assumption))), Or.inr ⟨c, p, rfl, hG⟩⟩); obtain ⟨nn6, tx6, ox6, a6, ln6, cp6, rfl, htx6⟩ := hx6.form2; have HX6 := Hid.intro hx6; have HT6 := Hid.intro htx6; have HS6 := Hid.intro hs; have HG6 := Hid.intro hG; clear hx6 hs htx6 hG; have l6 := hb6.size; (try simp at l6); obtain ⟨⟨g60_0, g60_1, g60_2, g60_3, g60_4, g60_5⟩, g60_f, g60_l⟩ := keep6 hb6 (w.heap.size + 1) (by first | omega | (simp; done) | (simp; omega)) (.int .i64 0) (.string ⟨#[]⟩) (.string ⟨#[]⟩) (.int .i64 0) (.int .i64 0) (.slice none 0 0) (by first | omega | (simp; done) | (simp; omega)) (by go_simp) (by go_simp) (by go_simp) (by go_simp) (by go_simp) (by go_simp) (by go_simp); have g60_f0 := g60_f 0; have g60_f1 := g60_f 1; have g60_f2 := g60_f 2; have g60_f3 := g60_f 3; have g60_f4 := g60_f 4; have g60_f5 := g60_f 5; obtain ⟨⟨g61_0, g61_1, g61_2, g61_3, g61_4, g61_5⟩, g61_f, g61_l⟩ := keep6 hb6 (w.heap.size) (by first | omega | (simp; done) | (simp; omega)) (.int .i64 (x0.kind : Int)) (.string tx0) (.string ox0) (.int .i64 nn0) (.int .i64 (x0.pl : Int)) (.slice a0 ln0 cp0) (by first | omega | (simp; done) | (simp; omega)) (by go_simp) (by go_simp) (by go_simp) (by go_simp) (by go_simp) (by go_simp) (by go_simp); have g61_f0 := g61_f 0; have g61_f1 := g61_f 1; have g61_f2 := g61_f 2; have g61_f3 := g61_f 3; have g61_f4 := g61_f 4; have g61_f5 := g61_f 5))
  simp only [Exit.then]
  go_wp2_with fail
  refine bodyPost_ret (v := .agg #[.int .i64 25, .string ⟨(t1.text).toArray⟩, .string ⟨(t3.text).toArray⟩, .int .i64 0, .int .i64 (p0 : Nat), .slice (some ⟨w6.heap.size, 0, none⟩) 2 2]) (by simp [results, Tryz.results167, go_sem, *]) rfl ⟨(by repeat (first | with_reducible exact But.refl _ _ | with_reducible refine But.alloc ?_ _ | with_reducible refine But.drew ?_ | with_reducible refine But.setCell ?_ (by first | (left; dsimp only; omega) | (left; simp; omega)) _ | with_reducible refine But.trans ?_ (by assumption) | with_reducible refine But.below ?_ (by assumption))), Or.inl ⟨_, _, _, rfl, ?_, (HS6.out.below (by repeat (first | with_reducible exact Below.refl _ _ | with_reducible refine Below.alloc ?_ (by first | omega | (simp; done) | (simp; omega)) _ | with_reducible refine Below.drew ?_ | with_reducible refine Below.setCell ?_ (by first | (dsimp only; omega) | (simp; omega)) _ ))), HG6.out.symm⟩⟩
  refine ex_two (k := 25) (t := t1.text) (o := t3.text) (n := 0) (p := p0) (u1 := .agg #[.int .i64 (x0.kind : Int), .string tx0, .string ox0, .int .i64 nn0, .int .i64 (x0.pl : Int), .slice a0 ln0 cp0]) (u2 := .agg #[.int .i64 (x6.kind : Int), .string tx6, .string ox6, .int .i64 nn6, .int .i64 (x6.pl : Int), .slice a6 ln6 cp6]) (by first | omega | (simp; done) | (simp; omega)) (by first | omega | (simp; done) | (simp; omega)) ?_ ?_ ((HX0.out.keep (by repeat (first | with_reducible exact Kept.refl _ _ | with_reducible refine Kept.alloc ?_ _ | with_reducible refine Kept.drew ?_ | with_reducible refine Kept.setCell ?_ (by first | (left; dsimp only; omega) | (right; dsimp only; omega) | (left; simp; omega) | (right; simp; omega)) _ | with_reducible refine Kept.but ?_ (by assumption) (by first | omega | (simp; omega)) | with_reducible refine Kept.below ?_ (by assumption)))).low (by first | omega | (simp; done) | (simp; omega))) ((HX6.out.keep (by repeat (first | with_reducible exact Kept.refl _ _ | with_reducible refine Kept.alloc ?_ _ | with_reducible refine Kept.drew ?_ | with_reducible refine Kept.setCell ?_ (by first | (left; dsimp only; omega) | (right; dsimp only; omega) | (left; simp; omega) | (right; simp; omega)) _ | with_reducible refine Kept.but ?_ (by assumption) (by first | omega | (simp; omega)) | with_reducible refine Kept.below ?_ (by assumption)))).low (by first | omega | (simp; done) | (simp; omega)))
  all_goals
    refine six ?_ ?_ ?_ ?_ ?_ ?_
    all_goals first | (go_simp; done) | (go_simp; rfl)

set_option maxHeartbeats 8000000 in
theorem match_reads {Z R en f : Nat} (KE : Reads Z R en f 130 .expr) (KP : ∀ p : Nat, ReadsX Z R en f 167 #[.int .i64 (p : Nat)] (pairsC p)) (KO : ∀ p : Nat, ReadsX Z R en f 168 #[.int .i64 (p : Nat)] (optionsC p)) : ReadsC Z R en f 147 matchC := by
  intro ts O w hw hO hg
  have lz : Z ≤ w.heap.size := hw.size
  have lr : R < Z := hw.rz
  have HO := Hid.intro hO
  have HW := Hid.intro hw
  have HKE := Hid.intro KE
  have HKP := Hid.intro KP
  have HKO := Hid.intro KO
  rw [matchC] at hg
  have HG0 := Hid.intro hg
  clear KE KP KO hw hO hg
  have F0 := fld0; have F1 := fld1; have F2 := fld2; have F3 := fld3
  go_enter Tryz.func147, Tryz.ntmps147
  go_wp2_with fail
  refine (must_step ⟨#[109, 97, 116, 99, 104]⟩ (by decide) _ (HW.out.below (by repeat (first | with_reducible exact Below.refl _ _ | with_reducible refine Below.alloc ?_ (by first | omega | (simp; done) | (simp; omega)) _ | with_reducible refine Below.drew ?_ | with_reducible refine Below.setCell ?_ (by first | (dsimp only; omega) | (simp; omega)) _ ))) HG0.out).mono ?_
  rintro e w1 ⟨hb1, ⟨t1, r1, rfl, hs, hG⟩ | ⟨c, p, rfl, hG⟩⟩
  rotate_left
  · exact ⟨rfl, (by repeat (first | with_reducible exact But.refl _ _ | with_reducible refine But.alloc ?_ _ | with_reducible refine But.drew ?_ | with_reducible refine But.setCell ?_ (by first | (left; dsimp only; omega) | (left; simp; omega)) _ | with_reducible refine But.trans ?_ (by assumption) | with_reducible refine But.below ?_ (by assumption))), Or.inr ⟨c, p, rfl, hG⟩⟩
  have l1 := hb1.size
  (try simp at l1)
  obtain ⟨⟨q1_0, q1_1, q1_2, q1_3, q1_4, q1_5⟩, q1_f, q1_l⟩ := keep6 hb1 (w.heap.size) (by first | omega | (simp; done) | (simp; omega)) (.int .i64 0) (.string ⟨#[]⟩) (.string ⟨#[]⟩) (.int .i64 0) (.int .i64 0) (.slice none 0 0) (by first | omega | (simp; done) | (simp; omega)) (by go_simp) (by go_simp) (by go_simp) (by go_simp) (by go_simp) (by go_simp) (by go_simp)
  have q1_f0 := q1_f 0
  have q1_f1 := q1_f 1
  have q1_f2 := q1_f 2
  have q1_f3 := q1_f 3
  have q1_f4 := q1_f 4
  have q1_f5 := q1_f 5
  have HG1 := Hid.intro hG
  have HS1 := Hid.intro hs
  clear hG hs
  go_wp2_with fail
  refine (HKE.out _ _ _ _ (HS1.out.below (by repeat (first | with_reducible exact Below.refl _ _ | with_reducible refine Below.alloc ?_ (by first | omega | (simp; done) | (simp; omega)) _ | with_reducible refine Below.drew ?_ | with_reducible refine Below.setCell ?_ (by first | (dsimp only; omega) | (simp; omega)) _ ))) HO.out HG1.out).mono ?_
  rintro e w2 ⟨hb2, ⟨v2, x2, r2, rfl, hx2, hs, hG⟩ | ⟨c, p, rfl, hG⟩⟩
  rotate_left
  · exact ⟨rfl, (by repeat (first | with_reducible exact But.refl _ _ | with_reducible refine But.alloc ?_ _ | with_reducible refine But.drew ?_ | with_reducible refine But.setCell ?_ (by first | (left; dsimp only; omega) | (left; simp; omega)) _ | with_reducible refine But.trans ?_ (by assumption) | with_reducible refine But.below ?_ (by assumption))), Or.inr ⟨c, p, rfl, hG⟩⟩
  obtain ⟨nn2, tx2, ox2, a2, ln2, cp2, rfl, htx2⟩ := hx2.form2
  have HX2 := Hid.intro hx2
  have HT2 := Hid.intro htx2
  clear hx2 htx2
  have l2 := hb2.size
  (try simp at l2)
  obtain ⟨⟨q2_0, q2_1, q2_2, q2_3, q2_4, q2_5⟩, q2_f, q2_l⟩ := keep6 hb2 (w.heap.size) (by first | omega | (simp; done) | (simp; omega)) (.int .i64 0) (.string ⟨#[]⟩) (.string ⟨#[]⟩) (.int .i64 0) (.int .i64 0) (.slice none 0 0) (by first | omega | (simp; done) | (simp; omega)) (by go_simp) (by go_simp) (by go_simp) (by go_simp) (by go_simp) (by go_simp) (by go_simp)
  have q2_f0 := q2_f 0
  have q2_f1 := q2_f 1
  have q2_f2 := q2_f 2
  have q2_f3 := q2_f 3
  have q2_f4 := q2_f 4
  have q2_f5 := q2_f 5
  clear q1_0 q1_1 q1_2 q1_3 q1_4 q1_5 q1_f0 q1_f1 q1_f2 q1_f3 q1_f4 q1_f5 q1_f
  have HG2 := Hid.intro hG
  have HS2 := Hid.intro hs
  clear hG hs
  go_wp2_with fail
  refine (must_step ⟨#[119, 105, 116, 104]⟩ (by decide) _ (HS2.out.below (by repeat (first | with_reducible exact Below.refl _ _ | with_reducible refine Below.alloc ?_ (by first | omega | (simp; done) | (simp; omega)) _ | with_reducible refine Below.drew ?_ | with_reducible refine Below.setCell ?_ (by first | (dsimp only; omega) | (simp; omega)) _ ))) HG2.out).mono ?_
  rintro e w3 ⟨hb3, ⟨t3, r3, rfl, hs, hG⟩ | ⟨c, p, rfl, hG⟩⟩
  rotate_left
  · exact ⟨rfl, (by repeat (first | with_reducible exact But.refl _ _ | with_reducible refine But.alloc ?_ _ | with_reducible refine But.drew ?_ | with_reducible refine But.setCell ?_ (by first | (left; dsimp only; omega) | (left; simp; omega)) _ | with_reducible refine But.trans ?_ (by assumption) | with_reducible refine But.below ?_ (by assumption))), Or.inr ⟨c, p, rfl, hG⟩⟩
  have l3 := hb3.size
  (try simp at l3)
  obtain ⟨⟨q3_0, q3_1, q3_2, q3_3, q3_4, q3_5⟩, q3_f, q3_l⟩ := keep6 hb3 (w.heap.size) (by first | omega | (simp; done) | (simp; omega)) (.int .i64 0) (.string ⟨#[]⟩) (.string ⟨#[]⟩) (.int .i64 0) (.int .i64 0) (.slice none 0 0) (by first | omega | (simp; done) | (simp; omega)) (by go_simp) (by go_simp) (by go_simp) (by go_simp) (by go_simp) (by go_simp) (by go_simp)
  have q3_f0 := q3_f 0
  have q3_f1 := q3_f 1
  have q3_f2 := q3_f 2
  have q3_f3 := q3_f 3
  have q3_f4 := q3_f 4
  have q3_f5 := q3_f 5
  obtain ⟨⟨q4_0, q4_1, q4_2, q4_3, q4_4, q4_5⟩, q4_f, q4_l⟩ := keep6 hb3 (w2.heap.size) (by first | omega | (simp; done) | (simp; omega)) (.int .i64 (x2.kind : Int)) (.string tx2) (.string ox2) (.int .i64 nn2) (.int .i64 (x2.pl : Int)) (.slice a2 ln2 cp2) (by first | omega | (simp; done) | (simp; omega)) (by go_simp) (by go_simp) (by go_simp) (by go_simp) (by go_simp) (by go_simp) (by go_simp)
  have q4_f0 := q4_f 0
  have q4_f1 := q4_f 1
  have q4_f2 := q4_f 2
  have q4_f3 := q4_f 3
  have q4_f4 := q4_f 4
  have q4_f5 := q4_f 5
  clear q2_0 q2_1 q2_2 q2_3 q2_4 q2_5 q2_f0 q2_f1 q2_f2 q2_f3 q2_f4 q2_f5 q2_f
  have HG3 := Hid.intro hG
  have HS3 := Hid.intro hs
  clear hG hs
  go_wp2_with fail
  refine (may_step ⟨#[40]⟩ (by decide) _ (HS3.out.below (by repeat (first | with_reducible exact Below.refl _ _ | with_reducible refine Below.alloc ?_ (by first | omega | (simp; done) | (simp; omega)) _ | with_reducible refine Below.drew ?_ | with_reducible refine Below.setCell ?_ (by first | (dsimp only; omega) | (simp; omega)) _ ))) HG3.out).mono ?_
  rintro e w4 ⟨hb4, ⟨rfl, r4, hs, hG⟩ | ⟨rfl, hs, hG⟩⟩
  · have l4 := hb4.size
    (try simp at l4)
    obtain ⟨⟨q5_0, q5_1, q5_2, q5_3, q5_4, q5_5⟩, q5_f, q5_l⟩ := keep6 hb4 (w.heap.size) (by first | omega | (simp; done) | (simp; omega)) (.int .i64 0) (.string ⟨#[]⟩) (.string ⟨#[]⟩) (.int .i64 0) (.int .i64 0) (.slice none 0 0) (by first | omega | (simp; done) | (simp; omega)) (by go_simp) (by go_simp) (by go_simp) (by go_simp) (by go_simp) (by go_simp) (by go_simp)
    have q5_f0 := q5_f 0
    have q5_f1 := q5_f 1
    have q5_f2 := q5_f 2
    have q5_f3 := q5_f 3
    have q5_f4 := q5_f 4
    have q5_f5 := q5_f 5
    obtain ⟨⟨q6_0, q6_1, q6_2, q6_3, q6_4, q6_5⟩, q6_f, q6_l⟩ := keep6 hb4 (w2.heap.size) (by first | omega | (simp; done) | (simp; omega)) (.int .i64 (x2.kind : Int)) (.string tx2) (.string ox2) (.int .i64 nn2) (.int .i64 (x2.pl : Int)) (.slice a2 ln2 cp2) (by first | omega | (simp; done) | (simp; omega)) (by go_simp) (by go_simp) (by go_simp) (by go_simp) (by go_simp) (by go_simp) (by go_simp)
    have q6_f0 := q6_f 0
    have q6_f1 := q6_f 1
    have q6_f2 := q6_f 2
    have q6_f3 := q6_f 3
    have q6_f4 := q6_f 4
    have q6_f5 := q6_f 5
    clear q3_0 q3_1 q3_2 q3_3 q3_4 q3_5 q3_f0 q3_f1 q3_f2 q3_f3 q3_f4 q3_f5 q3_f
    clear q4_0 q4_1 q4_2 q4_3 q4_4 q4_5 q4_f0 q4_f1 q4_f2 q4_f3 q4_f4 q4_f5 q4_f
    have HG4 := Hid.intro hG
    have HS4 := Hid.intro hs
    clear hG hs
    go_wp2_with fail
    refine (HKP.out t1.pos _ _ w1.heap.size _ _ _ (HS4.out.below (by repeat (first | with_reducible exact Below.refl _ _ | with_reducible refine Below.alloc ?_ (by first | omega | (simp; done) | (simp; omega)) _ | with_reducible refine Below.drew ?_ | with_reducible refine Below.setCell ?_ (by first | (dsimp only; omega) | (simp; omega)) _ ))) (by first | omega | (simp; done) | (simp; omega)) (by first | omega | (simp; done) | (simp; omega)) ((HX2.out.keep (by repeat (first | with_reducible exact Kept.refl _ _ | with_reducible refine Kept.alloc ?_ _ | with_reducible refine Kept.drew ?_ | with_reducible refine Kept.setCell ?_ (by first | (left; dsimp only; omega) | (right; dsimp only; omega) | (left; simp; omega) | (right; simp; omega)) _ | with_reducible refine Kept.but ?_ (by assumption) (by first | omega | (simp; omega)) | with_reducible refine Kept.below ?_ (by assumption)))).low (by first | omega | (simp; done) | (simp; omega))) HO.out HG4.out).mono ?_
    rintro e w5 ⟨hb5, ⟨v5, x5, r5, rfl, hx5, hs, hG⟩ | ⟨c, p, rfl, hG⟩⟩
    rotate_left
    · exact ⟨rfl, (by repeat (first | with_reducible exact But.refl _ _ | with_reducible refine But.alloc ?_ _ | with_reducible refine But.drew ?_ | with_reducible refine But.setCell ?_ (by first | (left; dsimp only; omega) | (left; simp; omega)) _ | with_reducible refine But.trans ?_ (by assumption) | with_reducible refine But.below ?_ (by assumption))), Or.inr ⟨c, p, rfl, hG⟩⟩
    obtain ⟨nn5, tx5, ox5, a5, ln5, cp5, rfl, htx5⟩ := hx5.form2
    have HX5 := Hid.intro hx5
    clear hx5 htx5
    have l5 := hb5.size
    (try simp at l5)
    obtain ⟨⟨q7_0, q7_1, q7_2, q7_3, q7_4, q7_5⟩, q7_f, q7_l⟩ := keep6 hb5 (w.heap.size) (by first | omega | (simp; done) | (simp; omega)) (.int .i64 0) (.string ⟨#[]⟩) (.string ⟨#[]⟩) (.int .i64 0) (.int .i64 0) (.slice none 0 0) (by first | omega | (simp; done) | (simp; omega)) (by go_simp) (by go_simp) (by go_simp) (by go_simp) (by go_simp) (by go_simp) (by go_simp)
    have q7_f0 := q7_f 0
    have q7_f1 := q7_f 1
    have q7_f2 := q7_f 2
    have q7_f3 := q7_f 3
    have q7_f4 := q7_f 4
    have q7_f5 := q7_f 5
    obtain ⟨⟨q8_0, q8_1, q8_2, q8_3, q8_4, q8_5⟩, q8_f, q8_l⟩ := keep6 hb5 (w2.heap.size) (by first | omega | (simp; done) | (simp; omega)) (.int .i64 (x2.kind : Int)) (.string tx2) (.string ox2) (.int .i64 nn2) (.int .i64 (x2.pl : Int)) (.slice a2 ln2 cp2) (by first | omega | (simp; done) | (simp; omega)) (by go_simp) (by go_simp) (by go_simp) (by go_simp) (by go_simp) (by go_simp) (by go_simp)
    have q8_f0 := q8_f 0
    have q8_f1 := q8_f 1
    have q8_f2 := q8_f 2
    have q8_f3 := q8_f 3
    have q8_f4 := q8_f 4
    have q8_f5 := q8_f 5
    clear q5_0 q5_1 q5_2 q5_3 q5_4 q5_5 q5_f0 q5_f1 q5_f2 q5_f3 q5_f4 q5_f5 q5_f
    clear q6_0 q6_1 q6_2 q6_3 q6_4 q6_5 q6_f0 q6_f1 q6_f2 q6_f3 q6_f4 q6_f5 q6_f
    have HG5 := Hid.intro hG
    have HS5 := Hid.intro hs
    clear hG hs
    go_wp2
    refine bodyPost_ret (v := .agg #[.int .i64 (x5.kind : Int), .string tx5, .string ox5, .int .i64 nn5, .int .i64 (x5.pl : Int), .slice a5 ln5 cp5]) (by simp [results, Tryz.results147, go_sem, *]) rfl ⟨(by repeat (first | with_reducible exact But.refl _ _ | with_reducible refine But.alloc ?_ _ | with_reducible refine But.drew ?_ | with_reducible refine But.setCell ?_ (by first | (left; dsimp only; omega) | (left; simp; omega)) _ | with_reducible refine But.trans ?_ (by assumption) | with_reducible refine But.below ?_ (by assumption))), Or.inl ⟨_, _, _, rfl, ((HX5.out.keep (by repeat (first | with_reducible exact Kept.refl _ _ | with_reducible refine Kept.alloc ?_ _ | with_reducible refine Kept.drew ?_ | with_reducible refine Kept.setCell ?_ (by first | (left; dsimp only; omega) | (right; dsimp only; omega) | (left; simp; omega) | (right; simp; omega)) _ | with_reducible refine Kept.but ?_ (by assumption) (by first | omega | (simp; omega)) | with_reducible refine Kept.below ?_ (by assumption)))).low (by first | omega | (simp; done) | (simp; omega))), (HS5.out.below (by repeat (first | with_reducible exact Below.refl _ _ | with_reducible refine Below.alloc ?_ (by first | omega | (simp; done) | (simp; omega)) _ | with_reducible refine Below.drew ?_ | with_reducible refine Below.setCell ?_ (by first | (dsimp only; omega) | (simp; omega)) _ ))), HG5.out⟩⟩
  · have l4 := hb4.size
    (try simp at l4)
    obtain ⟨⟨q9_0, q9_1, q9_2, q9_3, q9_4, q9_5⟩, q9_f, q9_l⟩ := keep6 hb4 (w.heap.size) (by first | omega | (simp; done) | (simp; omega)) (.int .i64 0) (.string ⟨#[]⟩) (.string ⟨#[]⟩) (.int .i64 0) (.int .i64 0) (.slice none 0 0) (by first | omega | (simp; done) | (simp; omega)) (by go_simp) (by go_simp) (by go_simp) (by go_simp) (by go_simp) (by go_simp) (by go_simp)
    have q9_f0 := q9_f 0
    have q9_f1 := q9_f 1
    have q9_f2 := q9_f 2
    have q9_f3 := q9_f 3
    have q9_f4 := q9_f 4
    have q9_f5 := q9_f 5
    obtain ⟨⟨q10_0, q10_1, q10_2, q10_3, q10_4, q10_5⟩, q10_f, q10_l⟩ := keep6 hb4 (w2.heap.size) (by first | omega | (simp; done) | (simp; omega)) (.int .i64 (x2.kind : Int)) (.string tx2) (.string ox2) (.int .i64 nn2) (.int .i64 (x2.pl : Int)) (.slice a2 ln2 cp2) (by first | omega | (simp; done) | (simp; omega)) (by go_simp) (by go_simp) (by go_simp) (by go_simp) (by go_simp) (by go_simp) (by go_simp)
    have q10_f0 := q10_f 0
    have q10_f1 := q10_f 1
    have q10_f2 := q10_f 2
    have q10_f3 := q10_f 3
    have q10_f4 := q10_f 4
    have q10_f5 := q10_f 5
    clear q3_0 q3_1 q3_2 q3_3 q3_4 q3_5 q3_f0 q3_f1 q3_f2 q3_f3 q3_f4 q3_f5 q3_f
    clear q4_0 q4_1 q4_2 q4_3 q4_4 q4_5 q4_f0 q4_f1 q4_f2 q4_f3 q4_f4 q4_f5 q4_f
    have HG4 := Hid.intro hG
    have HS4 := Hid.intro hs
    clear hG hs
    go_wp2_with fail
    refine (HKO.out t1.pos _ _ w1.heap.size _ _ _ (HS4.out.below (by repeat (first | with_reducible exact Below.refl _ _ | with_reducible refine Below.alloc ?_ (by first | omega | (simp; done) | (simp; omega)) _ | with_reducible refine Below.drew ?_ | with_reducible refine Below.setCell ?_ (by first | (dsimp only; omega) | (simp; omega)) _ ))) (by first | omega | (simp; done) | (simp; omega)) (by first | omega | (simp; done) | (simp; omega)) ((HX2.out.keep (by repeat (first | with_reducible exact Kept.refl _ _ | with_reducible refine Kept.alloc ?_ _ | with_reducible refine Kept.drew ?_ | with_reducible refine Kept.setCell ?_ (by first | (left; dsimp only; omega) | (right; dsimp only; omega) | (left; simp; omega) | (right; simp; omega)) _ | with_reducible refine Kept.but ?_ (by assumption) (by first | omega | (simp; omega)) | with_reducible refine Kept.below ?_ (by assumption)))).low (by first | omega | (simp; done) | (simp; omega))) HO.out HG4.out).mono ?_
    rintro e w6 ⟨hb6, ⟨v6, x6, r6, rfl, hx6, hs, hG⟩ | ⟨c, p, rfl, hG⟩⟩
    rotate_left
    · exact ⟨rfl, (by repeat (first | with_reducible exact But.refl _ _ | with_reducible refine But.alloc ?_ _ | with_reducible refine But.drew ?_ | with_reducible refine But.setCell ?_ (by first | (left; dsimp only; omega) | (left; simp; omega)) _ | with_reducible refine But.trans ?_ (by assumption) | with_reducible refine But.below ?_ (by assumption))), Or.inr ⟨c, p, rfl, hG⟩⟩
    obtain ⟨nn6, tx6, ox6, a6, ln6, cp6, rfl, htx6⟩ := hx6.form2
    have HX6 := Hid.intro hx6
    clear hx6 htx6
    have l6 := hb6.size
    (try simp at l6)
    obtain ⟨⟨q11_0, q11_1, q11_2, q11_3, q11_4, q11_5⟩, q11_f, q11_l⟩ := keep6 hb6 (w.heap.size) (by first | omega | (simp; done) | (simp; omega)) (.int .i64 0) (.string ⟨#[]⟩) (.string ⟨#[]⟩) (.int .i64 0) (.int .i64 0) (.slice none 0 0) (by first | omega | (simp; done) | (simp; omega)) (by go_simp) (by go_simp) (by go_simp) (by go_simp) (by go_simp) (by go_simp) (by go_simp)
    have q11_f0 := q11_f 0
    have q11_f1 := q11_f 1
    have q11_f2 := q11_f 2
    have q11_f3 := q11_f 3
    have q11_f4 := q11_f 4
    have q11_f5 := q11_f 5
    obtain ⟨⟨q12_0, q12_1, q12_2, q12_3, q12_4, q12_5⟩, q12_f, q12_l⟩ := keep6 hb6 (w2.heap.size) (by first | omega | (simp; done) | (simp; omega)) (.int .i64 (x2.kind : Int)) (.string tx2) (.string ox2) (.int .i64 nn2) (.int .i64 (x2.pl : Int)) (.slice a2 ln2 cp2) (by first | omega | (simp; done) | (simp; omega)) (by go_simp) (by go_simp) (by go_simp) (by go_simp) (by go_simp) (by go_simp) (by go_simp)
    have q12_f0 := q12_f 0
    have q12_f1 := q12_f 1
    have q12_f2 := q12_f 2
    have q12_f3 := q12_f 3
    have q12_f4 := q12_f 4
    have q12_f5 := q12_f 5
    clear q9_0 q9_1 q9_2 q9_3 q9_4 q9_5 q9_f0 q9_f1 q9_f2 q9_f3 q9_f4 q9_f5 q9_f
    clear q10_0 q10_1 q10_2 q10_3 q10_4 q10_5 q10_f0 q10_f1 q10_f2 q10_f3 q10_f4 q10_f5 q10_f
    have HG6 := Hid.intro hG
    have HS6 := Hid.intro hs
    clear hG hs
    go_wp2
    refine bodyPost_ret (v := .agg #[.int .i64 (x6.kind : Int), .string tx6, .string ox6, .int .i64 nn6, .int .i64 (x6.pl : Int), .slice a6 ln6 cp6]) (by simp [results, Tryz.results147, go_sem, *]) rfl ⟨(by repeat (first | with_reducible exact But.refl _ _ | with_reducible refine But.alloc ?_ _ | with_reducible refine But.drew ?_ | with_reducible refine But.setCell ?_ (by first | (left; dsimp only; omega) | (left; simp; omega)) _ | with_reducible refine But.trans ?_ (by assumption) | with_reducible refine But.below ?_ (by assumption))), Or.inl ⟨_, _, _, rfl, ((HX6.out.keep (by repeat (first | with_reducible exact Kept.refl _ _ | with_reducible refine Kept.alloc ?_ _ | with_reducible refine Kept.drew ?_ | with_reducible refine Kept.setCell ?_ (by first | (left; dsimp only; omega) | (right; dsimp only; omega) | (left; simp; omega) | (right; simp; omega)) _ | with_reducible refine Kept.but ?_ (by assumption) (by first | omega | (simp; omega)) | with_reducible refine Kept.below ?_ (by assumption)))).low (by first | omega | (simp; done) | (simp; omega))), (HS6.out.below (by repeat (first | with_reducible exact Below.refl _ _ | with_reducible refine Below.alloc ?_ (by first | omega | (simp; done) | (simp; omega)) _ | with_reducible refine Below.drew ?_ | with_reducible refine Below.setCell ?_ (by first | (dsimp only; omega) | (simp; omega)) _ ))), HG6.out⟩⟩
end Go.Proofs.YtkljakeccfnakaaGreatDoor
