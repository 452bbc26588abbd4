/-
  The walk of seq.
-/
import Derived.Test.YtlkidgilhlpjhaaDoorHC
namespace Go.Proofs.YtlkidgilhlpjhaaDoor
open Go.RowKit

set_option maxHeartbeats 8000000 in
theorem seq_reads {Z R en f : Nat} (KE : Reads Z R en f 47 .expr) (KS : Reads Z R en f 37 .seq) : ReadsC Z R en f 37 seqC := by
  intro ts O w hw hO hg
  have lz : Z ≤ w.heap.size := hw.size
  have lr : R < Z := hw.rz
  have HO := Hid.intro hO
  have HW := Hid.intro hw
  have HKE := Hid.intro KE
  have HKS := Hid.intro KS
  rw [seqC, run_here, ← next_pos] at hg
  have HG0 := Hid.intro hg
  clear KE KS hw hO hg
  have F0 := fld0; have F1 := fld1; have F2 := fld2; have F3 := fld3
  go_enter Tryd.func37, Tryd.ntmps37
  go_wp2_with fail
  refine (peek_any Z R en ts _ (HW.out.below (by repeat (first | with_reducible exact Below.refl _ _ | with_reducible refine Below.alloc ?_ (by first | omega | (simp; done) | (simp; omega)) _ | with_reducible refine Below.drew ?_ | with_reducible refine Below.setCell ?_ (by first | (dsimp only; omega) | (simp; omega)) _ )))).mono ?_
  rintro e w1 ⟨rfl, hp1⟩
  have hb1 := But.of (R := R) hp1
  unfold tkV
  have l1 := hb1.size
  (try simp at l1)
  obtain ⟨⟨q1_0, q1_1, q1_2, q1_3, q1_4, q1_5⟩, q1_f, q1_l⟩ := keep6 hb1 (w.heap.size) (by first | omega | (simp; done) | (simp; omega)) (.int .i64 0) (.string ⟨#[]⟩) (.string ⟨#[]⟩) (.int .i64 0) (.int .i64 0) (.slice none 0 0) (by first | omega | (simp; done) | (simp; omega)) (by go_simp) (by go_simp) (by go_simp) (by go_simp) (by go_simp) (by go_simp) (by go_simp)
  have q1_f0 := q1_f 0
  have q1_f1 := q1_f 1
  have q1_f2 := q1_f 2
  have q1_f3 := q1_f 3
  have q1_f4 := q1_f 4
  have q1_f5 := q1_f 5
  have HS1 : Hid (St Z R en w1 ts) := Hid.intro (St.to (HW.out.below (by repeat (first | with_reducible exact Below.refl _ _ | with_reducible refine Below.alloc ?_ (by first | omega | (simp; done) | (simp; omega)) _ | with_reducible refine Below.drew ?_ | with_reducible refine Below.setCell ?_ (by first | (dsimp only; omega) | (simp; omega)) _ ))) hp1)
  clear hp1
  generalize hnt : nextT en ts = t at *
  clear hnt
  go_wp2_with fail
  refine (HKE.out _ _ _ _ (HS1.out.below (by repeat (first | with_reducible exact Below.refl _ _ | with_reducible refine Below.alloc ?_ (by first | omega | (simp; done) | (simp; omega)) _ | with_reducible refine Below.drew ?_ | with_reducible refine Below.setCell ?_ (by first | (dsimp only; omega) | (simp; omega)) _ ))) HO.out HG0.out).mono ?_
  rintro e w2 ⟨hb2, ⟨v2, x2, r2, rfl, hx2, hs, hG⟩ | ⟨c, p, rfl, hG⟩⟩
  rotate_left
  · exact ⟨rfl, (by repeat (first | with_reducible exact But.refl _ _ | with_reducible refine But.alloc ?_ _ | with_reducible refine But.drew ?_ | with_reducible refine But.setCell ?_ (by first | (left; dsimp only; omega) | (left; simp; omega)) _ | with_reducible refine But.trans ?_ (by assumption) | with_reducible refine But.below ?_ (by assumption))), Or.inr ⟨c, p, rfl, hG⟩⟩
  obtain ⟨nn2, tx2, ox2, a2, ln2, cp2, rfl, htx2⟩ := hx2.form2
  have HX2 := Hid.intro hx2
  have HT2 := Hid.intro htx2
  clear hx2 htx2
  have l2 := hb2.size
  (try simp at l2)
  obtain ⟨⟨q2_0, q2_1, q2_2, q2_3, q2_4, q2_5⟩, q2_f, q2_l⟩ := keep6 hb2 (w.heap.size) (by first | omega | (simp; done) | (simp; omega)) (.int .i64 0) (.string ⟨#[]⟩) (.string ⟨#[]⟩) (.int .i64 0) (.int .i64 0) (.slice none 0 0) (by first | omega | (simp; done) | (simp; omega)) (by go_simp) (by go_simp) (by go_simp) (by go_simp) (by go_simp) (by go_simp) (by go_simp)
  have q2_f0 := q2_f 0
  have q2_f1 := q2_f 1
  have q2_f2 := q2_f 2
  have q2_f3 := q2_f 3
  have q2_f4 := q2_f 4
  have q2_f5 := q2_f 5
  clear q1_0 q1_1 q1_2 q1_3 q1_4 q1_5 q1_f0 q1_f1 q1_f2 q1_f3 q1_f4 q1_f5 q1_f
  have HG2 := Hid.intro hG
  have HS2 := Hid.intro hs
  clear hG hs
  go_wp2_with fail
  refine (may_step ⟨#[59]⟩ (by decide) _ (HS2.out.below (by repeat (first | with_reducible exact Below.refl _ _ | with_reducible refine Below.alloc ?_ (by first | omega | (simp; done) | (simp; omega)) _ | with_reducible refine Below.drew ?_ | with_reducible refine Below.setCell ?_ (by first | (dsimp only; omega) | (simp; omega)) _ ))) HG2.out).mono ?_
  rintro e w3 ⟨hb3, ⟨rfl, r3, hs, hG⟩ | ⟨rfl, hs, hG⟩⟩
  rotate_left
  · skip
    have l3 := hb3.size
    (try simp at l3)
    obtain ⟨⟨q3_0, q3_1, q3_2, q3_3, q3_4, q3_5⟩, q3_f, q3_l⟩ := keep6 hb3 (w.heap.size) (by first | omega | (simp; done) | (simp; omega)) (.int .i64 0) (.string ⟨#[]⟩) (.string ⟨#[]⟩) (.int .i64 0) (.int .i64 0) (.slice none 0 0) (by first | omega | (simp; done) | (simp; omega)) (by go_simp) (by go_simp) (by go_simp) (by go_simp) (by go_simp) (by go_simp) (by go_simp)
    have q3_f0 := q3_f 0
    have q3_f1 := q3_f 1
    have q3_f2 := q3_f 2
    have q3_f3 := q3_f 3
    have q3_f4 := q3_f 4
    have q3_f5 := q3_f 5
    obtain ⟨⟨q4_0, q4_1, q4_2, q4_3, q4_4, q4_5⟩, q4_f, q4_l⟩ := keep6 hb3 (w2.heap.size) (by first | omega | (simp; done) | (simp; omega)) (.int .i64 (x2.kind : Int)) (.string tx2) (.string ox2) (.int .i64 nn2) (.int .i64 (x2.pl : Int)) (.slice a2 ln2 cp2) (by first | omega | (simp; done) | (simp; omega)) (by go_simp) (by go_simp) (by go_simp) (by go_simp) (by go_simp) (by go_simp) (by go_simp)
    have q4_f0 := q4_f 0
    have q4_f1 := q4_f 1
    have q4_f2 := q4_f 2
    have q4_f3 := q4_f 3
    have q4_f4 := q4_f 4
    have q4_f5 := q4_f 5
    clear q2_0 q2_1 q2_2 q2_3 q2_4 q2_5 q2_f0 q2_f1 q2_f2 q2_f3 q2_f4 q2_f5 q2_f
    have HG3 := Hid.intro hG
    have HS3 := Hid.intro hs
    clear hG hs
    go_wp2
    refine bodyPost_ret (v := .agg #[.int .i64 (x2.kind : Int), .string tx2, .string ox2, .int .i64 nn2, .int .i64 (x2.pl : Int), .slice a2 ln2 cp2]) (by simp [results, Tryd.results37, go_sem, *]) rfl ⟨(by repeat (first | with_reducible exact But.refl _ _ | with_reducible refine But.alloc ?_ _ | with_reducible refine But.drew ?_ | with_reducible refine But.setCell ?_ (by first | (left; dsimp only; omega) | (left; simp; omega)) _ | with_reducible refine But.trans ?_ (by assumption) | with_reducible refine But.below ?_ (by assumption))), Or.inl ⟨_, x2, _, rfl, ((HX2.out.keep (by repeat (first | with_reducible exact Kept.refl _ _ | with_reducible refine Kept.alloc ?_ _ | with_reducible refine Kept.drew ?_ | with_reducible refine Kept.setCell ?_ (by first | (left; dsimp only; omega) | (right; dsimp only; omega) | (left; simp; omega) | (right; simp; omega)) _ | with_reducible refine Kept.but ?_ (by assumption) (by first | omega | (simp; omega)) | with_reducible refine Kept.below ?_ (by assumption)))).low (by first | omega | (simp; done) | (simp; omega))), (HS3.out.below (by repeat (first | with_reducible exact Below.refl _ _ | with_reducible refine Below.alloc ?_ (by first | omega | (simp; done) | (simp; omega)) _ | with_reducible refine Below.drew ?_ | with_reducible refine Below.setCell ?_ (by first | (dsimp only; omega) | (simp; omega)) _ ))), HG3.out.symm⟩⟩
  · skip
    have l3 := hb3.size
    (try simp at l3)
    obtain ⟨⟨q5_0, q5_1, q5_2, q5_3, q5_4, q5_5⟩, q5_f, q5_l⟩ := keep6 hb3 (w.heap.size) (by first | omega | (simp; done) | (simp; omega)) (.int .i64 0) (.string ⟨#[]⟩) (.string ⟨#[]⟩) (.int .i64 0) (.int .i64 0) (.slice none 0 0) (by first | omega | (simp; done) | (simp; omega)) (by go_simp) (by go_simp) (by go_simp) (by go_simp) (by go_simp) (by go_simp) (by go_simp)
    have q5_f0 := q5_f 0
    have q5_f1 := q5_f 1
    have q5_f2 := q5_f 2
    have q5_f3 := q5_f 3
    have q5_f4 := q5_f 4
    have q5_f5 := q5_f 5
    obtain ⟨⟨q6_0, q6_1, q6_2, q6_3, q6_4, q6_5⟩, q6_f, q6_l⟩ := keep6 hb3 (w2.heap.size) (by first | omega | (simp; done) | (simp; omega)) (.int .i64 (x2.kind : Int)) (.string tx2) (.string ox2) (.int .i64 nn2) (.int .i64 (x2.pl : Int)) (.slice a2 ln2 cp2) (by first | omega | (simp; done) | (simp; omega)) (by go_simp) (by go_simp) (by go_simp) (by go_simp) (by go_simp) (by go_simp) (by go_simp)
    have q6_f0 := q6_f 0
    have q6_f1 := q6_f 1
    have q6_f2 := q6_f 2
    have q6_f3 := q6_f 3
    have q6_f4 := q6_f 4
    have q6_f5 := q6_f 5
    clear q2_0 q2_1 q2_2 q2_3 q2_4 q2_5 q2_f0 q2_f1 q2_f2 q2_f3 q2_f4 q2_f5 q2_f
    have HG3 := Hid.intro hG
    have HS3 := Hid.intro hs
    clear hG hs
    go_wp2_with fail
    have d1 : w.heap.size ≠ w2.heap.size := by omega
    have d2 : w2.heap.size ≠ w.heap.size := by omega
    go_region_held (fun w' => w'.cell? ⟨w2.heap.size, 0, none⟩ = some (.int .i64 (x2.kind : Int)) ∧ w'.cell? ⟨w2.heap.size, 1, none⟩ = some (.string tx2) ∧ w'.cell? ⟨w2.heap.size, 2, none⟩ = some (.string ox2) ∧ w'.cell? ⟨w2.heap.size, 3, none⟩ = some (.int .i64 nn2) ∧ w'.cell? ⟨w2.heap.size, 4, none⟩ = some (.int .i64 (x2.pl : Int)) ∧ w'.cell? ⟨w2.heap.size, 5, none⟩ = some (.slice a2 ln2 cp2)) (go_keep)
      (first | (go_at_call 37; refine (HKS.out _ _ _ _ (HS3.out.below (by repeat (first | with_reducible exact Below.refl _ _ | with_reducible refine Below.alloc ?_ (by first | omega | (simp; done) | (simp; omega)) _ | with_reducible refine Below.drew ?_ | with_reducible refine Below.setCell ?_ (by first | (dsimp only; omega) | (simp; omega)) _ ))) HO.out HG3.out).mono ?_; rintro e w4 ⟨hb4, ⟨v4, x4, r4, rfl, hx4, hs, hG⟩ | ⟨c, p, rfl, hG⟩⟩; rotate_left; (exact ⟨rfl, (by repeat (first | with_reducible exact But.refl _ _ | with_reducible refine But.alloc ?_ _ | with_reducible refine But.drew ?_ | with_reducible refine But.setCell ?_ (by first | (left; dsimp only; omega) | (left; simp; omega)) _ | with_reducible refine But.trans ?_ (by assumption) | with_reducible refine But.below ?_ (by assumption))), Or.inr ⟨c, p, rfl, hG⟩⟩); obtain ⟨nn4, tx4, ox4, a4, ln4, cp4, rfl, htx4⟩ := hx4.form2; have HX4 := Hid.intro hx4; have HS4 := Hid.intro hs; have HG4 := Hid.intro hG; clear hx4 hs htx4 hG; have l4 := hb4.size; (try simp at l4); obtain ⟨⟨rr0, rr1, rr2, rr3, rr4, rr5⟩, rrf, rrl⟩ := keep6 hb4 (w.heap.size) (by first | omega | (simp; done) | (simp; omega)) (.int .i64 0) (.string ⟨#[]⟩) (.string ⟨#[]⟩) (.int .i64 0) (.int .i64 0) (.slice none 0 0) (by first | omega | (simp; done) | (simp; omega)) (by go_simp) (by go_simp) (by go_simp) (by go_simp) (by go_simp) (by go_simp) (by go_simp); have rrf0 := rrf 0; have rrf1 := rrf 1; have rrf2 := rrf 2; have rrf3 := rrf 3; have rrf4 := rrf 4; have rrf5 := rrf 5; obtain ⟨⟨ee0, ee1, ee2, ee3, ee4, ee5⟩, eef, eel⟩ := keep6 hb4 (w2.heap.size) (by first | omega | (simp; done) | (simp; omega)) (.int .i64 (x2.kind : Int)) (.string tx2) (.string ox2) (.int .i64 nn2) (.int .i64 (x2.pl : Int)) (.slice a2 ln2 cp2) (by first | omega | (simp; done) | (simp; omega)) (by go_simp) (by go_simp) (by go_simp) (by go_simp) (by go_simp) (by go_simp) (by go_simp); have eef0 := eef 0; have eef1 := eef 1; have eef2 := eef 2; have eef3 := eef 3; have eef4 := eef 4; have eef5 := eef 5))
    simp only [Exit.then]
    go_wp2_with fail
    refine bodyPost_ret (v := .agg #[.int .i64 9, .string ⟨#[]⟩, .string ⟨#[]⟩, .int .i64 0, .int .i64 t.pos, .slice (some ⟨w4.heap.size, 0, none⟩) 2 2]) (by simp [results, Tryd.results37, go_sem, *]) rfl ⟨(by repeat (first | with_reducible exact But.refl _ _ | with_reducible refine But.alloc ?_ _ | with_reducible refine But.drew ?_ | with_reducible refine But.setCell ?_ (by first | (left; dsimp only; omega) | (left; simp; omega)) _ | with_reducible refine But.trans ?_ (by assumption) | with_reducible refine But.below ?_ (by assumption))), Or.inl ⟨_, _, _, rfl, ?_, (HS4.out.below (by repeat (first | with_reducible exact Below.refl _ _ | with_reducible refine Below.alloc ?_ (by first | omega | (simp; done) | (simp; omega)) _ | with_reducible refine Below.drew ?_ | with_reducible refine Below.setCell ?_ (by first | (dsimp only; omega) | (simp; omega)) _ ))), HG4.out.symm⟩⟩
    refine ex_two (k := 9) (t := []) (o := []) (n := 0) (p := t.pos) (u1 := .agg #[.int .i64 (x2.kind : Int), .string tx2, .string ox2, .int .i64 nn2, .int .i64 (x2.pl : Int), .slice a2 ln2 cp2]) (u2 := .agg #[.int .i64 (x4.kind : Int), .string tx4, .string ox4, .int .i64 nn4, .int .i64 (x4.pl : Int), .slice a4 ln4 cp4]) (by first | omega | (simp; done) | (simp; omega)) (by first | omega | (simp; done) | (simp; omega)) ?_ ?_ ((HX2.out.keep (by repeat (first | with_reducible exact Kept.refl _ _ | with_reducible refine Kept.alloc ?_ _ | with_reducible refine Kept.drew ?_ | with_reducible refine Kept.setCell ?_ (by first | (left; dsimp only; omega) | (right; dsimp only; omega) | (left; simp; omega) | (right; simp; omega)) _ | with_reducible refine Kept.but ?_ (by assumption) (by first | omega | (simp; omega)) | with_reducible refine Kept.below ?_ (by assumption)))).low (by first | omega | (simp; done) | (simp; omega))) ((HX4.out.keep (by repeat (first | with_reducible exact Kept.refl _ _ | with_reducible refine Kept.alloc ?_ _ | with_reducible refine Kept.drew ?_ | with_reducible refine Kept.setCell ?_ (by first | (left; dsimp only; omega) | (right; dsimp only; omega) | (left; simp; omega) | (right; simp; omega)) _ | with_reducible refine Kept.but ?_ (by assumption) (by first | omega | (simp; omega)) | with_reducible refine Kept.below ?_ (by assumption)))).low (by first | omega | (simp; done) | (simp; omega)))
    all_goals
      refine six ?_ ?_ ?_ ?_ ?_ ?_
      all_goals first | (go_simp; done) | (go_simp; rfl)
end Go.Proofs.YtlkidgilhlpjhaaDoor
