/-
  The walk of a domain.
-/
import Derived.Test.YtkljakeccfnakaaGreatDoorHL
import Derived.Test.YtkljakeccfnakaaGreatDoorHP
import Derived.Test.YtkljakeccfnakaaGreatDoorGg
namespace Go.Proofs.YtkljakeccfnakaaGreatDoor
open Go.RowKit

set_option maxHeartbeats 4000000 in
/-- A word that has to stand there, with what was there. -/
theorem must_step2 {Z R en : Nat} {Rr : Sym → List Tok → Out} {O : Out} {k : Tok → Cmd} {ts : List Tok} (s : ByteArray) (hs : s.data.toList ≠ []) (w : World) (h : St Z R en w ts) (hg : runC en Rr (mustC s.data.toList k) ts = O) :
    Calls Tryz.prog 106 #[.pointer (some ⟨R, 0, none⟩), .string s] w fun e w' => But R w w' ∧ ((∃ t r, e = .returned (.agg #[.int .i64 (t).kind, .string ⟨(t).text.toArray⟩, .int .i64 (t).val, .int .i64 (t).pos]) ∧ St Z R en w' r ∧ ts = t :: r ∧ runC en Rr (k t) r = O) ∨ (∃ c p : Nat, e = .panicked [{ v := .iface 73 (.agg #[.int .i64 c, .int .i64 p]), recovered := false }] ∧ Gone en O c p)) := by
  have HS : Hid (∀ W, Below w.heap.size w W → Calls Tryz.prog 77 #[.pointer (some ⟨R, 0, none⟩), .string s] W fun e w' => e = .returned (.bool (hd (isT s.data.toList) ts)) ∧ Below W.heap.size W w') := fun W hW => sees_any Z R en ts s hs W (h.to hW)
  cases c : hd (isT s.data.toList) ts
  · have G : Hid (Gone en O 11 (place en ts)) := Or.inl ⟨rfl, ts, by rw [← hg]; simp [mustC, runC, c], rfl⟩
    rw [c] at HS
    have H := Hid.intro h
    clear hg c h
    go_enter Tryz.func106, Tryz.ntmps106
    go_wp2_with (first | (go_at_call 77; refine (HS.out _ (ba (Below.refl _ _))).mono ?_; rintro e w1 ⟨rfl, hb1⟩) | (go_at_call 129; refine (stop_any Z R en ts _ (H.out.to (bl2 (ba (Below.refl _ _)) hb1))).mono ?_; rintro e w2 ⟨rfl, hb2⟩))
    exact ⟨rfl, But.of (bl2 (bl2 (ba (Below.refl _ _)) hb1) hb2), Or.inr ⟨11, _, rfl, G.out⟩⟩
  · cases ts with
    | nil => cases c
    | cons t r =>
      have G : Hid (runC en Rr (k t) r = O) := by show _ = _; rw [← hg]; simp [mustC, runC, c]
      rw [c] at HS
      have H := Hid.intro h
      have lr : Z ≤ w.heap.size ∧ R < Z := ⟨h.size, h.rz⟩
      clear hg c h
      go_enter Tryz.func106, Tryz.ntmps106
      go_wp2_with (first | (go_at_call 77; refine (HS.out _ (ba (Below.refl _ _))).mono ?_; rintro e w1 ⟨rfl, hb1⟩) | (go_at_call 102; refine (take_any Z R en t r _ (H.out.to (bl2 (ba (Below.refl _ _)) hb1))).mono ?_; rintro e w2 ⟨rfl, h2, hb2⟩; unfold tkV; obtain ⟨⟨z0, z1, z2, z3⟩, zf, zl⟩ := keep4 ((But.of (R := R) hb1).trans hb2) w.heap.size (by omega) (.int .i64 0) (.string ⟨#[]⟩) (.int .i64 0) (.int .i64 0) (by simp) (by go_simp) (by go_simp) (by go_simp) (by go_simp) (by go_simp); have zf0 := zf 0; have zf1 := zf 1; have zf2 := zf 2; have zf3 := zf 3))
      refine bodyPost_ret (v := .agg #[.int .i64 (t).kind, .string ⟨(t).text.toArray⟩, .int .i64 (t).val, .int .i64 (t).pos]) (by simp [results, Tryz.results106, go_sem, World.cell?_setCell_other, z0, z1, z2, z3]) rfl ⟨?_, Or.inl ⟨t, r, rfl, ?_, rfl, G.out⟩⟩
      · exact ((((((But.of (ba (Below.refl _ _))).below hb1).trans hb2).setCell (Or.inl (Nat.le_refl _)) _).setCell (Or.inl (Nat.le_refl _)) _).setCell (Or.inl (Nat.le_refl _)) _).setCell (Or.inl (Nat.le_refl _)) _
      · exact h2.below (((((Below.refl _ _).setCell lr.1 _).setCell lr.1 _).setCell lr.1 _).setCell lr.1 _)

set_option maxHeartbeats 8000000 in
theorem domain_step {Z R en f : Nat} (KS : Reads Z R en f 107 .seq) {k : Ex → Cmd} {ts : List Tok} {O : Out} (w : World) (hw : St Z R en w ts) (hO : O ≠ .out) (hg : runC en (P en f) (domC k) ts = O) : Calls Tryz.prog 78 #[.pointer (some ⟨R, 0, none⟩)] w (Ended Z R en w O fun x r => runC en (P en f) (k x) r = O ∧ r.length < ts.length) := by
  have lz : Z ≤ w.heap.size := hw.size
  have lr : R < Z := hw.rz
  have HW := Hid.intro hw
  have HO := Hid.intro hO
  have HKS := Hid.intro KS
  rw [domC] at hg
  have HG0 := Hid.intro hg
  have HE : Hid (∀ x r, O = .ok x r → True) := fun _ _ _ => trivial
  clear KS hO hg hw HE
  have F3 := fld3
  go_enter Tryz.func78, Tryz.ntmps78
  go_wp2_with fail
  refine (must_step2 ⟨#[100, 111, 109, 97, 105, 110]⟩ (by decide) _ (HW.out.below (by repeat (first | with_reducible exact Below.refl _ _ | with_reducible refine Below.alloc ?_ (by first | omega | (simp; done) | (simp; omega)) _ | with_reducible refine Below.drew ?_ | with_reducible refine Below.setCell ?_ (by first | (dsimp only; omega) | (simp; omega)) _ ))) HG0.out).mono ?_
  rintro e w1 ⟨hb1, ⟨t1, r1, rfl, hs, hcons, hG⟩ | ⟨c, p, rfl, hG⟩⟩
  rotate_left
  · exact ⟨rfl, (by repeat (first | with_reducible exact But.refl _ _ | with_reducible refine But.alloc ?_ _ | with_reducible refine But.drew ?_ | with_reducible refine But.setCell ?_ (by first | (left; dsimp only; omega) | (left; simp; omega)) _ | with_reducible refine But.trans ?_ (by assumption) | with_reducible refine But.below ?_ (by assumption))), Or.inr ⟨c, p, rfl, hG⟩⟩
  have HCO := Hid.intro hcons
  clear hcons
  have l1 := hb1.size
  (try simp at l1)
  obtain ⟨⟨q1_0, q1_1, q1_2, q1_3, q1_4, q1_5⟩, q1_f, q1_l⟩ := keep6 hb1 (w.heap.size) (by first | omega | (simp; done) | (simp; omega)) (.int .i64 0) (.string ⟨#[]⟩) (.string ⟨#[]⟩) (.int .i64 0) (.int .i64 0) (.slice none 0 0) (by first | omega | (simp; done) | (simp; omega)) (by go_simp) (by go_simp) (by go_simp) (by go_simp) (by go_simp) (by go_simp) (by go_simp)
  have q1_f0 := q1_f 0
  have q1_f1 := q1_f 1
  have q1_f2 := q1_f 2
  have q1_f3 := q1_f 3
  have q1_f4 := q1_f 4
  have q1_f5 := q1_f 5
  have HG1 := Hid.intro hG
  have HS1 := Hid.intro hs
  clear hG hs
  have hne : P en f .seq r1 ≠ .out := by intro e; have h := HG1.out; simp only [runC, e] at h; exact HO.out h.symm
  have HNE := Hid.intro hne
  clear hne
  go_wp2_with fail
  refine (HKS.out.more (HS1.out.below (by repeat (first | with_reducible exact Below.refl _ _ | with_reducible refine Below.alloc ?_ (by first | omega | (simp; done) | (simp; omega)) _ | with_reducible refine Below.drew ?_ | with_reducible refine Below.setCell ?_ (by first | (dsimp only; omega) | (simp; omega)) _ ))) HNE.out).mono ?_
  rintro e w2 ⟨hb2, ⟨v2, x2, r2, rfl, hx2, hs, hP⟩ | ⟨c, p, rfl, hG⟩⟩
  rotate_left
  · exact ⟨rfl, (by repeat (first | with_reducible exact But.refl _ _ | with_reducible refine But.alloc ?_ _ | with_reducible refine But.drew ?_ | with_reducible refine But.setCell ?_ (by first | (left; dsimp only; omega) | (left; simp; omega)) _ | with_reducible refine But.trans ?_ (by assumption) | with_reducible refine But.below ?_ (by assumption))), Or.inr ⟨c, p, rfl, by have h := HG1.out; rw [run_call] at h; rw [← h]; exact gone_then hG⟩⟩
  have hdp := P_deep en f .seq r1 x2 r2 rfl hP
  have hl := HS1.out.ex.elim fun _ h => h.elim fun _ h => h.2.2.2.1
  have hdm : deepE x2 ≤ 1000000 := by simp only [symDeep] at hdp; omega
  have HL : Hid (r2.length ≤ r1.length) := by have := P_left en f .seq r1; rw [hP] at this; exact this
  have hG : runC en (P en f) (mustC [101, 110, 100] fun _ => if 60 < deepE x2 then .lim t1.pos else k x2) r2 = O := by have h := HG1.out; simp only [runC, hP] at h; exact h
  clear hP hdp hl
  obtain ⟨nn2, tx2, ox2, a2, ln2, cp2, rfl, htx2⟩ := hx2.form2
  have HX2 := Hid.intro hx2
  clear hx2 htx2
  have l2 := hb2.size
  (try simp at l2)
  obtain ⟨⟨q2_0, q2_1, q2_2, q2_3, q2_4, q2_5⟩, q2_f, q2_l⟩ := keep6 hb2 (w.heap.size) (by first | omega | (simp; done) | (simp; omega)) (.int .i64 0) (.string ⟨#[]⟩) (.string ⟨#[]⟩) (.int .i64 0) (.int .i64 0) (.slice none 0 0) (by first | omega | (simp; done) | (simp; omega)) (by go_simp) (by go_simp) (by go_simp) (by go_simp) (by go_simp) (by go_simp) (by go_simp)
  have q2_f0 := q2_f 0
  have q2_f1 := q2_f 1
  have q2_f2 := q2_f 2
  have q2_f3 := q2_f 3
  have q2_f4 := q2_f 4
  have q2_f5 := q2_f 5
  clear q1_0 q1_1 q1_2 q1_3 q1_4 q1_5 q1_f0 q1_f1 q1_f2 q1_f3 q1_f4 q1_f5 q1_f
  have HG2 := Hid.intro hG
  have HS2 := Hid.intro hs
  clear hG hs
  go_wp2_with fail
  refine (must_step2 ⟨#[101, 110, 100]⟩ (by decide) _ (HS2.out.below (by repeat (first | with_reducible exact Below.refl _ _ | with_reducible refine Below.alloc ?_ (by first | omega | (simp; done) | (simp; omega)) _ | with_reducible refine Below.drew ?_ | with_reducible refine Below.setCell ?_ (by first | (dsimp only; omega) | (simp; omega)) _ ))) HG2.out).mono ?_
  rintro e w3 ⟨hb3, ⟨t3, r3, rfl, hs, hcons, hG⟩ | ⟨c, p, rfl, hG⟩⟩
  rotate_left
  · exact ⟨rfl, (by repeat (first | with_reducible exact But.refl _ _ | with_reducible refine But.alloc ?_ _ | with_reducible refine But.drew ?_ | with_reducible refine But.setCell ?_ (by first | (left; dsimp only; omega) | (left; simp; omega)) _ | with_reducible refine But.trans ?_ (by assumption) | with_reducible refine But.below ?_ (by assumption))), Or.inr ⟨c, p, rfl, hG⟩⟩
  have HCE := Hid.intro hcons
  clear hcons
  have l3 := hb3.size
  (try simp at l3)
  obtain ⟨⟨q3_0, q3_1, q3_2, q3_3, q3_4, q3_5⟩, q3_f, q3_l⟩ := keep6 hb3 (w.heap.size) (by first | omega | (simp; done) | (simp; omega)) (.int .i64 0) (.string ⟨#[]⟩) (.string ⟨#[]⟩) (.int .i64 0) (.int .i64 0) (.slice none 0 0) (by first | omega | (simp; done) | (simp; omega)) (by go_simp) (by go_simp) (by go_simp) (by go_simp) (by go_simp) (by go_simp) (by go_simp)
  have q3_f0 := q3_f 0
  have q3_f1 := q3_f 1
  have q3_f2 := q3_f 2
  have q3_f3 := q3_f 3
  have q3_f4 := q3_f 4
  have q3_f5 := q3_f 5
  obtain ⟨⟨q4_0, q4_1, q4_2, q4_3, q4_4, q4_5⟩, q4_f, q4_l⟩ := keep6 hb3 (w2.heap.size) (by first | omega | (simp; done) | (simp; omega)) (.int .i64 (x2.kind : Int)) (.string tx2) (.string ox2) (.int .i64 nn2) (.int .i64 (x2.pl : Int)) (.slice a2 ln2 cp2) (by first | omega | (simp; done) | (simp; omega)) (by go_simp) (by go_simp) (by go_simp) (by go_simp) (by go_simp) (by go_simp) (by go_simp)
  have q4_f0 := q4_f 0
  have q4_f1 := q4_f 1
  have q4_f2 := q4_f 2
  have q4_f3 := q4_f 3
  have q4_f4 := q4_f 4
  have q4_f5 := q4_f 5
  clear q2_0 q2_1 q2_2 q2_3 q2_4 q2_5 q2_f0 q2_f1 q2_f2 q2_f3 q2_f4 q2_f5 q2_f
  have HG3 := Hid.intro hG
  have HS3 := Hid.intro hs
  clear hG hs
  have HDP := Hid.intro hdm
  clear hdm
  go_wp2_with fail
  refine (deep_any _ x2 _ (w1.heap.size) _ (Nat.le_refl _) (HX2.out.keep (by repeat (first | with_reducible exact Kept.refl _ _ | with_reducible refine Kept.alloc ?_ _ | with_reducible refine Kept.drew ?_ | with_reducible refine Kept.setCell ?_ (by first | (left; dsimp only; omega) | (right; dsimp only; omega) | (left; simp; omega) | (right; simp; omega)) _ | with_reducible refine Kept.but ?_ (by assumption) (by first | omega | (simp; omega)) | with_reducible refine Kept.below ?_ (by assumption)))) HDP.out).mono ?_
  rintro e w4 ⟨rfl, hp4⟩
  have hb4 := But.of (R := R) hp4
  have l4 := hb4.size
  (try simp at l4)
  obtain ⟨⟨q5_0, q5_1, q5_2, q5_3, q5_4, q5_5⟩, q5_f, q5_l⟩ := keep6 hb4 (w.heap.size) (by first | omega | (simp; done) | (simp; omega)) (.int .i64 0) (.string ⟨#[]⟩) (.string ⟨#[]⟩) (.int .i64 0) (.int .i64 0) (.slice none 0 0) (by first | omega | (simp; done) | (simp; omega)) (by go_simp) (by go_simp) (by go_simp) (by go_simp) (by go_simp) (by go_simp) (by go_simp)
  have q5_f0 := q5_f 0
  have q5_f1 := q5_f 1
  have q5_f2 := q5_f 2
  have q5_f3 := q5_f 3
  have q5_f4 := q5_f 4
  have q5_f5 := q5_f 5
  obtain ⟨⟨q6_0, q6_1, q6_2, q6_3, q6_4, q6_5⟩, q6_f, q6_l⟩ := keep6 hb4 (w2.heap.size) (by first | omega | (simp; done) | (simp; omega)) (.int .i64 (x2.kind : Int)) (.string tx2) (.string ox2) (.int .i64 nn2) (.int .i64 (x2.pl : Int)) (.slice a2 ln2 cp2) (by first | omega | (simp; done) | (simp; omega)) (by go_simp) (by go_simp) (by go_simp) (by go_simp) (by go_simp) (by go_simp) (by go_simp)
  have q6_f0 := q6_f 0
  have q6_f1 := q6_f 1
  have q6_f2 := q6_f 2
  have q6_f3 := q6_f 3
  have q6_f4 := q6_f 4
  have q6_f5 := q6_f 5
  clear q3_0 q3_1 q3_2 q3_3 q3_4 q3_5 q3_f0 q3_f1 q3_f2 q3_f3 q3_f4 q3_f5 q3_f
  clear q4_0 q4_1 q4_2 q4_3 q4_4 q4_5 q4_f0 q4_f1 q4_f2 q4_f3 q4_f4 q4_f5 q4_f
  have HS4 : Hid (St Z R en w4 r3) := Hid.intro (St.to (HS3.out.below (by repeat (first | with_reducible exact Below.refl _ _ | with_reducible refine Below.alloc ?_ (by first | omega | (simp; done) | (simp; omega)) _ | with_reducible refine Below.drew ?_ | with_reducible refine Below.setCell ?_ (by first | (dsimp only; omega) | (simp; omega)) _ ))) hp4)
  clear hp4
  by_cases c : 60 < deepE x2
  · have c' : (60 : Int) < (deepE x2 : Int) := by omega
    have HGo : Hid (Gone en O 15 t1.pos) := Or.inr ⟨rfl, by rw [← HG3.out, if_pos c]; rfl⟩
    clear c
    go_wp2
    exact ⟨rfl, (by repeat (first | with_reducible exact But.refl _ _ | with_reducible refine But.alloc ?_ _ | with_reducible refine But.drew ?_ | with_reducible refine But.setCell ?_ (by first | (left; dsimp only; omega) | (left; simp; omega)) _ | with_reducible refine But.trans ?_ (by assumption) | with_reducible refine But.below ?_ (by assumption))), Or.inr ⟨15, _, rfl, HGo.out⟩⟩
  · have c' : ¬ (60 : Int) < (deepE x2 : Int) := by omega
    have HGk : Hid (runC en (P en f) (k x2) r3 = O) := by have h := HG3.out; rw [if_neg c] at h; exact h
    clear c
    go_wp2
    refine bodyPost_ret (v := .agg #[.int .i64 (x2.kind : Int), .string tx2, .string ox2, .int .i64 nn2, .int .i64 (x2.pl : Int), .slice a2 ln2 cp2]) (by simp [results, Tryz.results78, go_sem, *]) rfl ⟨(by repeat (first | with_reducible exact But.refl _ _ | with_reducible refine But.alloc ?_ _ | with_reducible refine But.drew ?_ | with_reducible refine But.setCell ?_ (by first | (left; dsimp only; omega) | (left; simp; omega)) _ | with_reducible refine But.trans ?_ (by assumption) | with_reducible refine But.below ?_ (by assumption))), Or.inl ⟨_, x2, r3, rfl, ((HX2.out.keep (by repeat (first | with_reducible exact Kept.refl _ _ | with_reducible refine Kept.alloc ?_ _ | with_reducible refine Kept.drew ?_ | with_reducible refine Kept.setCell ?_ (by first | (left; dsimp only; omega) | (right; dsimp only; omega) | (left; simp; omega) | (right; simp; omega)) _ | with_reducible refine Kept.but ?_ (by assumption) (by first | omega | (simp; omega)) | with_reducible refine Kept.below ?_ (by assumption)))).low (by first | omega | (simp; done) | (simp; omega))), (HS4.out.below (by repeat (first | with_reducible exact Below.refl _ _ | with_reducible refine Below.alloc ?_ (by first | omega | (simp; done) | (simp; omega)) _ | with_reducible refine Below.drew ?_ | with_reducible refine Below.setCell ?_ (by first | (dsimp only; omega) | (simp; omega)) _ ))), HGk.out, ?_⟩⟩
    have h1 := HL.out
    rw [HCE.out, List.length_cons] at h1
    rw [HCO.out, List.length_cons]
    omega
end Go.Proofs.YtkljakeccfnakaaGreatDoor
