/-
  The walks of declarations.
-/
import Derived.Test.YtkljakeccfnakaaGreatDoorHabc
namespace Go.Proofs.YtkljakeccfnakaaGreatDoor
open Go.RowKit

set_option maxHeartbeats 8000000 in
theorem first_step {Z R en f : Nat} {k : Int → Cmd} {ts : List Tok} {O : Out} (w : World) (hw : St Z R en w ts) (hg : runC en (P en f) (firstC k) ts = O) : Calls Tryz.prog 104 #[.pointer (some ⟨R, 0, none⟩)] w fun e w' => But R w w' ∧ ((∃ (v : Int) (r : List Tok), e = .returned (.int .i64 v) ∧ St Z R en w' r ∧ (-999999999 ≤ v ∧ v ≤ 999999999) ∧ runC en (P en f) (k v) r = O) ∨ (∃ c p : Nat, e = .panicked [{ v := .iface 73 (.agg #[.int .i64 c, .int .i64 p]), recovered := false }] ∧ Gone en O c p)) := by
  have lz : Z ≤ w.heap.size := hw.size
  have lr : R < Z := hw.rz
  have HW := Hid.intro hw
  rw [firstC] at hg
  have HG0 := Hid.intro hg
  clear hw hg
  have F2 := fld2
  go_enter Tryz.func104, Tryz.ntmps104
  go_wp2_with fail
  refine (must_step ⟨#[61]⟩ (by decide) _ (HW.out.below (by repeat (first | with_reducible exact Below.refl _ _ | with_reducible refine Below.alloc ?_ (by first | omega | (simp; done) | (simp; omega)) _ | with_reducible refine Below.drew ?_ | with_reducible refine Below.setCell ?_ (by first | (dsimp only; omega) | (simp; omega)) _ ))) HG0.out).mono ?_
  rintro e w1 ⟨hb1, ⟨t1, r1, rfl, hs, hG⟩ | ⟨c, p, rfl, hG⟩⟩
  rotate_left
  · exact ⟨rfl, (by repeat (first | with_reducible exact But.refl _ _ | with_reducible refine But.alloc ?_ _ | with_reducible refine But.drew ?_ | with_reducible refine But.setCell ?_ (by first | (left; dsimp only; omega) | (left; simp; omega)) _ | with_reducible refine But.trans ?_ (by assumption) | with_reducible refine But.below ?_ (by assumption))), Or.inr ⟨c, p, rfl, hG⟩⟩
  have l1 := hb1.size
  (try simp at l1)
  have HG1 := Hid.intro hG
  have HS1 := Hid.intro hs
  clear hG hs
  go_wp2_with fail
  refine (may_step ⟨#[45]⟩ (by decide) _ (HS1.out.below (by repeat (first | with_reducible exact Below.refl _ _ | with_reducible refine Below.alloc ?_ (by first | omega | (simp; done) | (simp; omega)) _ | with_reducible refine Below.drew ?_ | with_reducible refine Below.setCell ?_ (by first | (dsimp only; omega) | (simp; omega)) _ ))) HG1.out).mono ?_
  rintro e w2 ⟨hb2, ⟨rfl, r2, hs, hG⟩ | ⟨rfl, hs, hG⟩⟩
  · have l2 := hb2.size
    (try simp at l2)
    have HG2 := Hid.intro hG
    have HS2 := Hid.intro hs
    clear hG hs
    go_wp2_with fail
    refine (number_step _ (HS2.out.below (by repeat (first | with_reducible exact Below.refl _ _ | with_reducible refine Below.alloc ?_ (by first | omega | (simp; done) | (simp; omega)) _ | with_reducible refine Below.drew ?_ | with_reducible refine Below.setCell ?_ (by first | (dsimp only; omega) | (simp; omega)) _ ))) HG2.out).mono ?_
    rintro e w3 ⟨hb3, ⟨t3, r3, rfl, hs, hv, hG⟩ | ⟨c, p, rfl, hG⟩⟩
    rotate_left
    · exact ⟨rfl, (by repeat (first | with_reducible exact But.refl _ _ | with_reducible refine But.alloc ?_ _ | with_reducible refine But.drew ?_ | with_reducible refine But.setCell ?_ (by first | (left; dsimp only; omega) | (left; simp; omega)) _ | with_reducible refine But.trans ?_ (by assumption) | with_reducible refine But.below ?_ (by assumption))), Or.inr ⟨c, p, rfl, hG⟩⟩
    have hv2 : (t3.val : Int) ≤ 999999999 := by omega
    have HG3 := Hid.intro hG
    have HS3 := Hid.intro hs
    clear hG hs hv
    have l3 := hb3.size
    have hwr : IntKind.i64.wrap (-(t3.val : Int)) = -(t3.val : Int) := by rw [IntKind.wrap_i64]; omega
    go_wp2
    go_ret
    exact ⟨(by repeat (first | with_reducible exact But.refl _ _ | with_reducible refine But.alloc ?_ _ | with_reducible refine But.drew ?_ | with_reducible refine But.setCell ?_ (by first | (left; dsimp only; omega) | (left; simp; omega)) _ | with_reducible refine But.trans ?_ (by assumption) | with_reducible refine But.below ?_ (by assumption))), Or.inl ⟨(-(t3.val : Int)), _, by first | rfl | (go_num), (HS3.out.below (by repeat (first | with_reducible exact Below.refl _ _ | with_reducible refine Below.alloc ?_ (by first | omega | (simp; done) | (simp; omega)) _ | with_reducible refine Below.drew ?_ | with_reducible refine Below.setCell ?_ (by first | (dsimp only; omega) | (simp; omega)) _ ))), by omega, HG3.out⟩⟩
  · have l2 := hb2.size
    (try simp at l2)
    have HG2 := Hid.intro hG
    have HS2 := Hid.intro hs
    clear hG hs
    go_wp2_with fail
    refine (number_step _ (HS2.out.below (by repeat (first | with_reducible exact Below.refl _ _ | with_reducible refine Below.alloc ?_ (by first | omega | (simp; done) | (simp; omega)) _ | with_reducible refine Below.drew ?_ | with_reducible refine Below.setCell ?_ (by first | (dsimp only; omega) | (simp; omega)) _ ))) HG2.out).mono ?_
    rintro e w4 ⟨hb4, ⟨t4, r4, rfl, hs, hv, hG⟩ | ⟨c, p, rfl, hG⟩⟩
    rotate_left
    · exact ⟨rfl, (by repeat (first | with_reducible exact But.refl _ _ | with_reducible refine But.alloc ?_ _ | with_reducible refine But.drew ?_ | with_reducible refine But.setCell ?_ (by first | (left; dsimp only; omega) | (left; simp; omega)) _ | with_reducible refine But.trans ?_ (by assumption) | with_reducible refine But.below ?_ (by assumption))), Or.inr ⟨c, p, rfl, hG⟩⟩
    have hv2 : (t4.val : Int) ≤ 999999999 := by omega
    have HG4 := Hid.intro hG
    have HS4 := Hid.intro hs
    clear hG hs hv
    have l4 := hb4.size
    go_wp2
    go_ret
    exact ⟨(by repeat (first | with_reducible exact But.refl _ _ | with_reducible refine But.alloc ?_ _ | with_reducible refine But.drew ?_ | with_reducible refine But.setCell ?_ (by first | (left; dsimp only; omega) | (left; simp; omega)) _ | with_reducible refine But.trans ?_ (by assumption) | with_reducible refine But.below ?_ (by assumption))), Or.inl ⟨(t4.val : Int), _, by first | rfl | (go_num), (HS4.out.below (by repeat (first | with_reducible exact Below.refl _ _ | with_reducible refine Below.alloc ?_ (by first | omega | (simp; done) | (simp; omega)) _ | with_reducible refine Below.drew ?_ | with_reducible refine Below.setCell ?_ (by first | (dsimp only; omega) | (simp; omega)) _ ))), by omega, HG4.out⟩⟩
/-- A declaration as a value. -/
def dcV (d : Ex) : Value := .agg #[.int .i64 (d.kind : Int), .string ⟨d.text.toArray⟩, .int .i64 d.n, .int .i64 (d.pl : Int)]
set_option maxHeartbeats 2000000 in
theorem size_any (d : Ex) (w : World) (h3 : d.kind = 3 → 0 ≤ d.n) :
    Calls Tryz.prog 76 #[dcV d] w fun e w' => e = .returned (.int .i64 (sizeE d : Nat)) ∧ Below w.heap.size w w' := by
  unfold dcV
  by_cases c : d.kind = 3
  · have E : Hid (((sizeE d : Nat) : Int) = d.n) := by show _ = _; unfold sizeE; rw [if_pos c]; have := h3 c; omega
    have c2 : ((d.kind : Int) == 3) = true := by rw [beq_iff_eq]; omega
    clear h3 c
    go_enter Tryz.func76, Tryz.ntmps76
    go_wp2
    go_ret
    exact ⟨ret_int E.out.symm, ba (Below.refl _ _)⟩
  · have E : Hid (sizeE d = 1) := by show _ = _; unfold sizeE; rw [if_neg c]
    have c2 : ((d.kind : Int) == 3) = false := by rw [beq_eq_false_iff_ne]; omega
    clear h3 c
    go_enter Tryz.func76, Tryz.ntmps76
    go_wp2
    go_ret
    exact ⟨ret_int (by rw [E.out]; rfl), ba (Below.refl _ _)⟩
set_option maxHeartbeats 2000000 in
theorem seesDecl_any (Z R en : Nat) (ts : List Tok) (w : World) (h : St Z R en w ts) :
    Calls Tryz.prog 73 #[.pointer (some ⟨R, 0, none⟩)] w fun e w' => e = .returned (.bool (hd isDecl ts)) ∧ Below w.heap.size w w' := by
  have E : Hid (hd isDecl ts = (hd (isT [99, 101, 108, 108]) ts || hd (isT [97, 116, 111, 109]) ts || hd (isT [114, 111, 119]) ts)) := by cases ts <;> rfl
  have H1 : Hid (∀ W, Below w.heap.size w W → Calls Tryz.prog 77 #[.pointer (some ⟨R, 0, none⟩), .string ⟨#[99, 101, 108, 108]⟩] W fun e w' => e = .returned (.bool (hd (isT [99, 101, 108, 108]) ts)) ∧ Below W.heap.size W w') := fun W hW => sees_any Z R en ts ⟨#[99, 101, 108, 108]⟩ (by decide) W (h.to hW)
  have H2 : Hid (∀ W, Below w.heap.size w W → Calls Tryz.prog 77 #[.pointer (some ⟨R, 0, none⟩), .string ⟨#[97, 116, 111, 109]⟩] W fun e w' => e = .returned (.bool (hd (isT [97, 116, 111, 109]) ts)) ∧ Below W.heap.size W w') := fun W hW => sees_any Z R en ts ⟨#[97, 116, 111, 109]⟩ (by decide) W (h.to hW)
  have H3 : Hid (∀ W, Below w.heap.size w W → Calls Tryz.prog 77 #[.pointer (some ⟨R, 0, none⟩), .string ⟨#[114, 111, 119]⟩] W fun e w' => e = .returned (.bool (hd (isT [114, 111, 119]) ts)) ∧ Below W.heap.size W w') := fun W hW => sees_any Z R en ts ⟨#[114, 111, 119]⟩ (by decide) W (h.to hW)
  clear h
  generalize hd isDecl ts = b0 at *
  generalize hd (isT [99, 101, 108, 108]) ts = b1 at *
  generalize hd (isT [97, 116, 111, 109]) ts = b2 at *
  generalize hd (isT [114, 111, 119]) ts = b3 at *
  cases b1
  · cases b2
    · go_enter Tryz.func73, Tryz.ntmps73
      go_wp2_with fail
      refine (H1.out _ (Below.refl _ _)).mono ?_
      rintro e w1 ⟨rfl, hb1⟩
      go_wp2_with fail
      refine (H2.out _ hb1).mono ?_
      rintro e w2 ⟨rfl, hb2⟩
      go_wp2_with fail
      refine (H3.out _ (bl2 hb1 hb2)).mono ?_
      rintro e w3 ⟨rfl, hb3⟩
      go_wp2
      go_ret
      exact ⟨ret_bool (by rw [E.out]; rfl), bl2 (bl2 hb1 hb2) hb3⟩
    · go_enter Tryz.func73, Tryz.ntmps73
      go_wp2_with fail
      refine (H1.out _ (Below.refl _ _)).mono ?_
      rintro e w1 ⟨rfl, hb1⟩
      go_wp2_with fail
      refine (H2.out _ hb1).mono ?_
      rintro e w2 ⟨rfl, hb2⟩
      go_wp2
      go_ret
      exact ⟨ret_bool (by rw [E.out]; rfl), bl2 hb1 hb2⟩
  · go_enter Tryz.func73, Tryz.ntmps73
    go_wp2_with fail
    refine (H1.out _ (Below.refl _ _)).mono ?_
    rintro e w1 ⟨rfl, hb1⟩
    go_wp2
    go_ret
    exact ⟨ret_bool (by rw [E.out]; rfl), hb1⟩

set_option maxHeartbeats 8000000 in
theorem decl_step {Z R en f : Nat} {k : Ex → Cmd} {t0 : Tok} {us : List Tok} {O : Out} (w : World) (hw : St Z R en w (t0 :: us)) (hg : runC en (P en f) (declC k) (t0 :: us) = O) : Calls Tryz.prog 75 #[.pointer (some ⟨R, 0, none⟩)] w fun e w' => But R w w' ∧ ((∃ (d : Ex) (r : List Tok), e = .returned (dcV d) ∧ St Z R en w' r ∧ (d.kind = 3 → 1 ≤ d.n ∧ d.n ≤ 8) ∧ runC en (P en f) (k d) r = O) ∨ (∃ c p : Nat, e = .panicked [{ v := .iface 73 (.agg #[.int .i64 c, .int .i64 p]), recovered := false }] ∧ Gone en O c p)) := by
  have lz : Z ≤ w.heap.size := hw.size
  have lr : R < Z := hw.rz
  have HW := Hid.intro hw
  rw [declC] at hg
  have HG0 : Hid (runC en (P en f) (nameC' fun n => if t0.text = [99, 101, 108, 108] then firstC fun v => k (.mk 1 n [] v t0.pos []) else if t0.text = [97, 116, 111, 109] then firstC fun v => k (.mk 2 n [] v t0.pos []) else kindC 3 fun u => if u.val < 1 ∨ 8 < u.val then .lim u.pos else k (.mk 3 n [] u.val t0.pos [])) us = O) := hg
  clear hw hg
  have F2 := fld2; have F3 := fld3
  go_enter Tryz.func75, Tryz.ntmps75
  go_wp2_with fail
  refine (take_any Z R en t0 us _ (HW.out.below (by repeat (first | with_reducible exact Below.refl _ _ | with_reducible refine Below.alloc ?_ (by first | omega | (simp; done) | (simp; omega)) _ | with_reducible refine Below.drew ?_ | with_reducible refine Below.setCell ?_ (by first | (dsimp only; omega) | (simp; omega)) _ )))).mono ?_
  rintro e w1 ⟨rfl, hs, hb1⟩
  unfold tkV
  have l1 := hb1.size
  (try simp at l1)
  obtain ⟨⟨q1_0, q1_1, q1_2, q1_3⟩, q1_f, q1_l⟩ := keep4 hb1 (w.heap.size) (by first | omega | (simp; done) | (simp; omega)) (.int .i64 0) (.string ⟨#[]⟩) (.int .i64 0) (.int .i64 0) (by first | omega | (simp; done) | (simp; omega)) (by go_simp) (by go_simp) (by go_simp) (by go_simp) (by go_simp)
  have q1_f0 := q1_f 0
  have q1_f1 := q1_f 1
  have q1_f2 := q1_f 2
  have q1_f3 := q1_f 3
  have HS1 := Hid.intro hs
  clear hs
  go_wp2_with fail
  refine (name_step _ (HS1.out.below (by repeat (first | with_reducible exact Below.refl _ _ | with_reducible refine Below.alloc ?_ (by first | omega | (simp; done) | (simp; omega)) _ | with_reducible refine Below.drew ?_ | with_reducible refine Below.setCell ?_ (by first | (dsimp only; omega) | (simp; omega)) _ ))) HG0.out).mono ?_
  rintro e w2 ⟨hb2, ⟨t2, r2, rfl, hs, hG⟩ | ⟨c, p, rfl, hG⟩⟩
  rotate_left
  · exact ⟨rfl, (by repeat (first | with_reducible exact But.refl _ _ | with_reducible refine But.alloc ?_ _ | with_reducible refine But.drew ?_ | with_reducible refine But.setCell ?_ (by first | (left; dsimp only; omega) | (left; simp; omega)) _ | with_reducible refine But.trans ?_ (by assumption) | with_reducible refine But.below ?_ (by assumption))), Or.inr ⟨c, p, rfl, hG⟩⟩
  have l2 := hb2.size
  (try simp at l2)
  obtain ⟨⟨q2_0, q2_1, q2_2, q2_3⟩, q2_f, q2_l⟩ := keep4 hb2 (w.heap.size) (by first | omega | (simp; done) | (simp; omega)) (.int .i64 0) (.string ⟨#[]⟩) (.int .i64 0) (.int .i64 0) (by first | omega | (simp; done) | (simp; omega)) (by go_simp) (by go_simp) (by go_simp) (by go_simp) (by go_simp)
  have q2_f0 := q2_f 0
  have q2_f1 := q2_f 1
  have q2_f2 := q2_f 2
  have q2_f3 := q2_f 3
  obtain ⟨⟨q3_0, q3_1, q3_2, q3_3⟩, q3_f, q3_l⟩ := keep4 hb2 (w1.heap.size) (by first | omega | (simp; done) | (simp; omega)) (.int .i64 (t0.kind : Nat)) (.string ⟨t0.text.toArray⟩) (.int .i64 (t0.val : Nat)) (.int .i64 (t0.pos : Nat)) (by first | omega | (simp; done) | (simp; omega)) (by go_simp) (by go_simp) (by go_simp) (by go_simp) (by go_simp)
  have q3_f0 := q3_f 0
  have q3_f1 := q3_f 1
  have q3_f2 := q3_f 2
  have q3_f3 := q3_f 3
  clear q1_0 q1_1 q1_2 q1_3 q1_f0 q1_f1 q1_f2 q1_f3 q1_f
  have HG2 := Hid.intro hG
  have HS2 := Hid.intro hs
  clear hG hs
  cases c0 : (t0.text == [99, 101, 108, 108])
  rotate_left
  · have HG9 := HG2
    rw [if_pos (eq_of_beq c0)] at HG9
    go_wp2_with fail
    have dd0 : w.heap.size ≠ w1.heap.size := by omega
    have dd1 : w1.heap.size ≠ w.heap.size := by omega
    go_region_held (fun w' => w'.cell? ⟨w1.heap.size, 0, none⟩ = some (.int .i64 (t0.kind : Nat)) ∧ w'.cell? ⟨w1.heap.size, 1, none⟩ = some (.string ⟨t0.text.toArray⟩) ∧ w'.cell? ⟨w1.heap.size, 2, none⟩ = some (.int .i64 (t0.val : Nat)) ∧ w'.cell? ⟨w1.heap.size, 3, none⟩ = some (.int .i64 (t0.pos : Nat))) (go_keep)
      (first | (go_at_call 104; refine (first_step _ (HS2.out.below (by repeat (first | with_reducible exact Below.refl _ _ | with_reducible refine Below.alloc ?_ (by first | omega | (simp; done) | (simp; omega)) _ | with_reducible refine Below.drew ?_ | with_reducible refine Below.setCell ?_ (by first | (dsimp only; omega) | (simp; omega)) _ ))) HG9.out).mono ?_; rintro e w3 ⟨hb3, ⟨v3, r3, rfl, hs, hv, hG⟩ | ⟨c, p, rfl, hG⟩⟩; rotate_left; (exact ⟨rfl, (by repeat (first | with_reducible exact But.refl _ _ | with_reducible refine But.alloc ?_ _ | with_reducible refine But.drew ?_ | with_reducible refine But.setCell ?_ (by first | (left; dsimp only; omega) | (left; simp; omega)) _ | with_reducible refine But.trans ?_ (by assumption) | with_reducible refine But.below ?_ (by assumption))), Or.inr ⟨c, p, rfl, hG⟩⟩); have HS3 := Hid.intro hs; have HG3 := Hid.intro hG; clear hs hG; have l3 := hb3.size; (try simp at l3); obtain ⟨⟨g0_0, g0_1, g0_2, g0_3⟩, g0_f, g0_l⟩ := keep4 hb3 (w.heap.size) (by first | omega | (simp; done) | (simp; omega)) (.int .i64 0) (.string ⟨#[]⟩) (.int .i64 0) (.int .i64 0) (by first | omega | (simp; done) | (simp; omega)) (by go_simp) (by go_simp) (by go_simp) (by go_simp) (by go_simp); have g0_f0 := g0_f 0; have g0_f1 := g0_f 1; have g0_f2 := g0_f 2; have g0_f3 := g0_f 3; obtain ⟨⟨g1_0, g1_1, g1_2, g1_3⟩, g1_f, g1_l⟩ := keep4 hb3 (w1.heap.size) (by first | omega | (simp; done) | (simp; omega)) (.int .i64 (t0.kind : Nat)) (.string ⟨t0.text.toArray⟩) (.int .i64 (t0.val : Nat)) (.int .i64 (t0.pos : Nat)) (by first | omega | (simp; done) | (simp; omega)) (by go_simp) (by go_simp) (by go_simp) (by go_simp) (by go_simp); have g1_f0 := g1_f 0; have g1_f1 := g1_f 1; have g1_f2 := g1_f 2; have g1_f3 := g1_f 3))
    simp only [Exit.then]
    go_wp2_with fail
    exact bodyPost_ret (v := .agg #[.int .i64 1, .string ⟨t2.text.toArray⟩, .int .i64 v3, .int .i64 (t0.pos : Nat)]) (by simp [results, Tryz.results75, go_sem, *]) rfl ⟨(by repeat (first | with_reducible exact But.refl _ _ | with_reducible refine But.alloc ?_ _ | with_reducible refine But.drew ?_ | with_reducible refine But.setCell ?_ (by first | (left; dsimp only; omega) | (left; simp; omega)) _ | with_reducible refine But.trans ?_ (by assumption) | with_reducible refine But.below ?_ (by assumption))), Or.inl ⟨.mk 1 t2.text [] v3 t0.pos [], _, rfl, (HS3.out.below (by repeat (first | with_reducible exact Below.refl _ _ | with_reducible refine Below.alloc ?_ (by first | omega | (simp; done) | (simp; omega)) _ | with_reducible refine Below.drew ?_ | with_reducible refine Below.setCell ?_ (by first | (dsimp only; omega) | (simp; omega)) _ ))), (fun h => by cases h), HG3.out⟩⟩
  cases c1 : (t0.text == [97, 116, 111, 109])
  rotate_left
  · have HG9 := HG2
    rw [if_neg (fun e => by rw [e] at c0; cases c0), if_pos (eq_of_beq c1)] at HG9
    go_wp2_with fail
    have dd0 : w.heap.size ≠ w1.heap.size := by omega
    have dd1 : w1.heap.size ≠ w.heap.size := by omega
    go_region_held (fun w' => w'.cell? ⟨w1.heap.size, 0, none⟩ = some (.int .i64 (t0.kind : Nat)) ∧ w'.cell? ⟨w1.heap.size, 1, none⟩ = some (.string ⟨t0.text.toArray⟩) ∧ w'.cell? ⟨w1.heap.size, 2, none⟩ = some (.int .i64 (t0.val : Nat)) ∧ w'.cell? ⟨w1.heap.size, 3, none⟩ = some (.int .i64 (t0.pos : Nat))) (go_keep)
      (first | (go_at_call 104; refine (first_step _ (HS2.out.below (by repeat (first | with_reducible exact Below.refl _ _ | with_reducible refine Below.alloc ?_ (by first | omega | (simp; done) | (simp; omega)) _ | with_reducible refine Below.drew ?_ | with_reducible refine Below.setCell ?_ (by first | (dsimp only; omega) | (simp; omega)) _ ))) HG9.out).mono ?_; rintro e w4 ⟨hb4, ⟨v4, r4, rfl, hs, hv, hG⟩ | ⟨c, p, rfl, hG⟩⟩; rotate_left; (exact ⟨rfl, (by repeat (first | with_reducible exact But.refl _ _ | with_reducible refine But.alloc ?_ _ | with_reducible refine But.drew ?_ | with_reducible refine But.setCell ?_ (by first | (left; dsimp only; omega) | (left; simp; omega)) _ | with_reducible refine But.trans ?_ (by assumption) | with_reducible refine But.below ?_ (by assumption))), Or.inr ⟨c, p, rfl, hG⟩⟩); have HS4 := Hid.intro hs; have HG4 := Hid.intro hG; clear hs hG; have l4 := hb4.size; (try simp at l4); obtain ⟨⟨g0_0, g0_1, g0_2, g0_3⟩, g0_f, g0_l⟩ := keep4 hb4 (w.heap.size) (by first | omega | (simp; done) | (simp; omega)) (.int .i64 0) (.string ⟨#[]⟩) (.int .i64 0) (.int .i64 0) (by first | omega | (simp; done) | (simp; omega)) (by go_simp) (by go_simp) (by go_simp) (by go_simp) (by go_simp); have g0_f0 := g0_f 0; have g0_f1 := g0_f 1; have g0_f2 := g0_f 2; have g0_f3 := g0_f 3; obtain ⟨⟨g1_0, g1_1, g1_2, g1_3⟩, g1_f, g1_l⟩ := keep4 hb4 (w1.heap.size) (by first | omega | (simp; done) | (simp; omega)) (.int .i64 (t0.kind : Nat)) (.string ⟨t0.text.toArray⟩) (.int .i64 (t0.val : Nat)) (.int .i64 (t0.pos : Nat)) (by first | omega | (simp; done) | (simp; omega)) (by go_simp) (by go_simp) (by go_simp) (by go_simp) (by go_simp); have g1_f0 := g1_f 0; have g1_f1 := g1_f 1; have g1_f2 := g1_f 2; have g1_f3 := g1_f 3))
    simp only [Exit.then]
    go_wp2_with fail
    exact bodyPost_ret (v := .agg #[.int .i64 2, .string ⟨t2.text.toArray⟩, .int .i64 v4, .int .i64 (t0.pos : Nat)]) (by simp [results, Tryz.results75, go_sem, *]) rfl ⟨(by repeat (first | with_reducible exact But.refl _ _ | with_reducible refine But.alloc ?_ _ | with_reducible refine But.drew ?_ | with_reducible refine But.setCell ?_ (by first | (left; dsimp only; omega) | (left; simp; omega)) _ | with_reducible refine But.trans ?_ (by assumption) | with_reducible refine But.below ?_ (by assumption))), Or.inl ⟨.mk 2 t2.text [] v4 t0.pos [], _, rfl, (HS4.out.below (by repeat (first | with_reducible exact Below.refl _ _ | with_reducible refine Below.alloc ?_ (by first | omega | (simp; done) | (simp; omega)) _ | with_reducible refine Below.drew ?_ | with_reducible refine Below.setCell ?_ (by first | (dsimp only; omega) | (simp; omega)) _ ))), (fun h => by cases h), HG4.out⟩⟩
  have HG9 := HG2
  rw [if_neg (fun e => by rw [e] at c0; cases c0), if_neg (fun e => by rw [e] at c1; cases c1)] at HG9
  go_wp2_with fail
  refine (number_step _ (HS2.out.below (by repeat (first | with_reducible exact Below.refl _ _ | with_reducible refine Below.alloc ?_ (by first | omega | (simp; done) | (simp; omega)) _ | with_reducible refine Below.drew ?_ | with_reducible refine Below.setCell ?_ (by first | (dsimp only; omega) | (simp; omega)) _ ))) HG9.out).mono ?_
  rintro e w5 ⟨hb5, ⟨u0, r5, rfl, hs, hv, hG⟩ | ⟨c, p, rfl, hG⟩⟩
  rotate_left
  · exact ⟨rfl, (by repeat (first | with_reducible exact But.refl _ _ | with_reducible refine But.alloc ?_ _ | with_reducible refine But.drew ?_ | with_reducible refine But.setCell ?_ (by first | (left; dsimp only; omega) | (left; simp; omega)) _ | with_reducible refine But.trans ?_ (by assumption) | with_reducible refine But.below ?_ (by assumption))), Or.inr ⟨c, p, rfl, hG⟩⟩
  have l5 := hb5.size
  (try simp at l5)
  obtain ⟨⟨q4_0, q4_1, q4_2, q4_3⟩, q4_f, q4_l⟩ := keep4 hb5 (w.heap.size) (by first | omega | (simp; done) | (simp; omega)) (.int .i64 0) (.string ⟨#[]⟩) (.int .i64 0) (.int .i64 0) (by first | omega | (simp; done) | (simp; omega)) (by go_simp) (by go_simp) (by go_simp) (by go_simp) (by go_simp)
  have q4_f0 := q4_f 0
  have q4_f1 := q4_f 1
  have q4_f2 := q4_f 2
  have q4_f3 := q4_f 3
  obtain ⟨⟨q5_0, q5_1, q5_2, q5_3⟩, q5_f, q5_l⟩ := keep4 hb5 (w1.heap.size) (by first | omega | (simp; done) | (simp; omega)) (.int .i64 (t0.kind : Nat)) (.string ⟨t0.text.toArray⟩) (.int .i64 (t0.val : Nat)) (.int .i64 (t0.pos : Nat)) (by first | omega | (simp; done) | (simp; omega)) (by go_simp) (by go_simp) (by go_simp) (by go_simp) (by go_simp)
  have q5_f0 := q5_f 0
  have q5_f1 := q5_f 1
  have q5_f2 := q5_f 2
  have q5_f3 := q5_f 3
  clear q2_0 q2_1 q2_2 q2_3 q2_f0 q2_f1 q2_f2 q2_f3 q2_f
  clear q3_0 q3_1 q3_2 q3_3 q3_f0 q3_f1 q3_f2 q3_f3 q3_f
  have HG5 := Hid.intro hG
  have HS5 := Hid.intro hs
  clear hG hs
  by_cases cc : u0.val < 1 ∨ 8 < u0.val
  · have HGo : Hid (Gone en O 15 u0.pos) := Or.inr ⟨rfl, by rw [← HG5.out, if_pos cc]; rfl⟩
    rcases cc with cc | cc
    · have cc1 : (u0.val : Int) < 1 := by omega
      go_wp2
      exact ⟨rfl, (by repeat (first | with_reducible exact But.refl _ _ | with_reducible refine But.alloc ?_ _ | with_reducible refine But.drew ?_ | with_reducible refine But.setCell ?_ (by first | (left; dsimp only; omega) | (left; simp; omega)) _ | with_reducible refine But.trans ?_ (by assumption) | with_reducible refine But.below ?_ (by assumption))), Or.inr ⟨15, _, rfl, HGo.out⟩⟩
    · have cc1 : ¬ (u0.val : Int) < 1 := by omega
      have cc2 : (8 : Int) < (u0.val : Int) := by omega
      go_wp2
      exact ⟨rfl, (by repeat (first | with_reducible exact But.refl _ _ | with_reducible refine But.alloc ?_ _ | with_reducible refine But.drew ?_ | with_reducible refine But.setCell ?_ (by first | (left; dsimp only; omega) | (left; simp; omega)) _ | with_reducible refine But.trans ?_ (by assumption) | with_reducible refine But.below ?_ (by assumption))), Or.inr ⟨15, _, rfl, HGo.out⟩⟩
  · have HG8 : Hid (runC en (P en f) (k (.mk 3 t2.text [] (u0.val : Int) t0.pos [])) r5 = O) := by have := HG5.out; rw [if_neg cc] at this; exact this
    have cc1 : ¬ (u0.val : Int) < 1 := by omega
    have cc2 : ¬ (8 : Int) < (u0.val : Int) := by omega
    clear cc
    go_wp2
    exact bodyPost_ret (v := .agg #[.int .i64 3, .string ⟨t2.text.toArray⟩, .int .i64 (u0.val : Int), .int .i64 (t0.pos : Nat)]) (by simp [results, Tryz.results75, go_sem, *]) rfl ⟨(by repeat (first | with_reducible exact But.refl _ _ | with_reducible refine But.alloc ?_ _ | with_reducible refine But.drew ?_ | with_reducible refine But.setCell ?_ (by first | (left; dsimp only; omega) | (left; simp; omega)) _ | with_reducible refine But.trans ?_ (by assumption) | with_reducible refine But.below ?_ (by assumption))), Or.inl ⟨.mk 3 t2.text [] (u0.val : Int) t0.pos [], _, rfl, (HS5.out.below (by repeat (first | with_reducible exact Below.refl _ _ | with_reducible refine Below.alloc ?_ (by first | omega | (simp; done) | (simp; omega)) _ | with_reducible refine Below.drew ?_ | with_reducible refine Below.setCell ?_ (by first | (dsimp only; omega) | (simp; omega)) _ ))), (fun _ => by simp only [Ex.n]; omega), HG8.out⟩⟩
end Go.Proofs.YtkljakeccfnakaaGreatDoor
