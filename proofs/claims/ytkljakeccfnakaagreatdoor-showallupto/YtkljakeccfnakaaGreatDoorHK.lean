/-
  The walk of a match of options.
-/
import Derived.Test.YtkljakeccfnakaaGreatDoorHJ
namespace Go.Proofs.YtkljakeccfnakaaGreatDoor
open Go.RowKit

theorem keep63 {R M K : Nat} {W w1 : World} (hb : But3 R M K W w1) (b : Nat) (hne : b ≠ R) (hM : b ≠ M) (hK : b ≠ K) (x0 x1 x2 x3 x4 x5 : Value) (h : b < W.heap.size) (h0 : W.cell? ⟨b, 0, none⟩ = some x0) (h1 : W.cell? ⟨b, 1, none⟩ = some x1) (h2 : W.cell? ⟨b, 2, none⟩ = some x2) (h3 : W.cell? ⟨b, 3, none⟩ = some x3) (h4 : W.cell? ⟨b, 4, none⟩ = some x4) (h5 : W.cell? ⟨b, 5, none⟩ = some x5) (hf : ∀ o, W.frozen? ⟨b, o, none⟩ = false) :
    (w1.cell? ⟨b, 0, none⟩ = some x0 ∧ w1.cell? ⟨b, 1, none⟩ = some x1 ∧ w1.cell? ⟨b, 2, none⟩ = some x2 ∧ w1.cell? ⟨b, 3, none⟩ = some x3 ∧ w1.cell? ⟨b, 4, none⟩ = some x4 ∧ w1.cell? ⟨b, 5, none⟩ = some x5) ∧ (∀ o, w1.frozen? ⟨b, o, none⟩ = false) ∧ b < w1.heap.size := by
  have e := hb.block b h hne hM hK
  refine ⟨⟨(cell_of_block e).trans h0, (cell_of_block e).trans h1, (cell_of_block e).trans h2, (cell_of_block e).trans h3, (cell_of_block e).trans h4, (cell_of_block e).trans h5⟩, fun o => ?_, Nat.lt_of_lt_of_le h hb.size⟩
  have := hf o
  simp only [World.frozen?] at this ⊢
  rw [e]; exact this
theorem Kept.but3 {lo R M K : Nat} {w w1 w2 : World} (h : Kept lo w w1) (hb : But3 R M K w1 w2) (hR : R < lo) (hM : M < lo ∨ w.heap.size ≤ M) (hK : K < lo ∨ w.heap.size ≤ K) : Kept lo w w2 :=
  ⟨Nat.le_trans h.size hb.size, fun b h1 h2 => (hb.block b (Nat.lt_of_lt_of_le h2 h.size) (by omega) (by omega) (by omega)).trans (h.block b h1 h2)⟩
/-- Own blocks from B on may have turned as well. -/
theorem But.of3 {R M K : Nat} {a b c : World} (h : But R a b) (k : But3 R M K b c) (hM : a.heap.size ≤ M) (hK : a.heap.size ≤ K) : But R a c :=
  ⟨k.os.trans h.os, k.tape.trans h.tape, k.output.trans h.output, Nat.le_trans h.size k.size, fun i hi hr => (k.block i (Nat.lt_of_lt_of_le hi h.size) hr (by omega) (by omega)).trans (h.block i hi hr)⟩
def kids3 (a b c : Value) : Nat → Value := fun i => if i < 6 then comp a i else if i < 12 then comp b (i - 6) else comp c (i - 12)
theorem kids3_arr (a0 a1 a2 a3 a4 a5 b0 b1 b2 b3 b4 b5 c0 c1 c2 c3 c4 c5 : Value) (i : Nat) (hi : i < 18) : #[a0, a1, a2, a3, a4, a5, b0, b1, b2, b3, b4, b5, c0, c1, c2, c3, c4, c5][i]? = some (kids3 (.agg #[a0, a1, a2, a3, a4, a5]) (.agg #[b0, b1, b2, b3, b4, b5]) (.agg #[c0, c1, c2, c3, c4, c5]) i) := by
  have h : i = 0 ∨ i = 1 ∨ i = 2 ∨ i = 3 ∨ i = 4 ∨ i = 5 ∨ i = 6 ∨ i = 7 ∨ i = 8 ∨ i = 9 ∨ i = 10 ∨ i = 11 ∨ i = 12 ∨ i = 13 ∨ i = 14 ∨ i = 15 ∨ i = 16 ∨ i = 17 := by omega
  rcases h with rfl | rfl | rfl | rfl | rfl | rfl | rfl | rfl | rfl | rfl | rfl | rfl | rfl | rfl | rfl | rfl | rfl | rfl
  all_goals rfl
theorem kids3_second (a b c v : Value) : laidKid (kids3 a b c) 6 v = kids3 a v c := by
  funext i
  unfold laidKid kids3
  by_cases h1 : i < 6
  · rw [if_neg (by omega), if_pos h1, if_pos h1]
  · by_cases h2 : i < 12
    · rw [if_pos (by omega), if_neg h1, if_pos h2]
    · rw [if_neg (by omega), if_neg h1, if_neg h2, if_neg h1, if_neg h2]
theorem kids3_third (a b c v : Value) {i : Nat} (hi : i < 18) : laidKid (kids3 a b c) 12 v i = kids3 a b v i := by
  unfold laidKid kids3
  by_cases h1 : i < 6
  · rw [if_neg (by omega), if_pos h1, if_pos h1]
  · by_cases h2 : i < 12
    · rw [if_neg (by omega), if_neg h1, if_pos h2, if_neg h1, if_pos h2]
    · rw [if_pos (by omega), if_neg h1, if_neg h2]
theorem MB.to {w : World} {M K : Nat} {tx : ByteArray} {nb nb' : Int} {p : Nat} {y y' : Nat → Value} (h : MB w M K tx nb p y) (hn : nb = nb') (hy : ∀ i, i < 18 → y i = y' i) : MB w M K tx nb' p y' := by
  subst hn
  exact ⟨h.m, h.k.elim fun arr e => ⟨arr, e.1, e.2.1, fun i hi => (e.2.2 i hi).trans (by rw [hy i hi])⟩⟩
/-- The match as an expression. -/
theorem MB.ex {lo : Nat} {w : World} {M K : Nat} {t : List UInt8} {nb : Int} {p : Nat} {a b c : Value} {x y z : Ex} (h : MB w M K ⟨t.toArray⟩ nb p (kids3 a b c)) (hlo : lo ≤ K) (hx : ExV lo w a x) (hy : ExV lo w b y) (hz : ExV lo w c z) :
    ExV lo w (exV 24 t [] nb p (.slice (some ⟨K, 0, none⟩) 3 3)) (.mk 24 t [] nb p [x, y, z]) := by
  obtain ⟨hk, _, hl⟩ := h.kids
  refine ex_three (u1 := a) (u2 := b) (u3 := c) hlo hl (fun j hj => ?_) (fun j hj => ?_) (fun j hj => ?_) hx hy hz
  · rw [hk j (by omega)]; unfold kids3; rw [if_pos hj]
  · rw [hk (6 + j) (by omega)]; unfold kids3; rw [if_neg (by omega), if_pos (by omega), show 6 + j - 6 = j by omega]
  · rw [hk (12 + j) (by omega)]; unfold kids3; rw [if_neg (by omega), if_neg (by omega), show 12 + j - 12 = j by omega]
theorem MB.set {w : World} {M K : Nat} {tx : ByteArray} {nb : Int} {p : Nat} {y : Nat → Value} (h : MB w M K tx nb p y) {a : Addr} (hM : M ≠ a.block) (hK : K ≠ a.block) (v : Value) : MB (w.setCell a v) M K tx nb p y := h.same (Below.heap_setCell _ _ _ _ hM) (Below.heap_setCell _ _ _ _ hK)
theorem heap_new2 (w : World) (a b : Obj) : ((w.alloc a).alloc b).heap[w.heap.size]? = some a ∧ ((w.alloc a).alloc b).heap[w.heap.size + 1]? = some b := by
  have s1 : (w.alloc a).heap.size = w.heap.size + 1 := by simp
  have h1 := heap_alloc_new w a
  have h2 := heap_alloc_new (w.alloc a) b
  rw [s1] at h2
  exact ⟨ha_old h1, h2⟩

set_option maxHeartbeats 8000000 in
theorem options_reads {Z R en f : Nat} (KE : Reads Z R en f 130 .expr) (p0 : Nat) : ReadsX Z R en f 168 #[.int .i64 (p0 : Nat)] (optionsC p0) := by
  intro v0 x0 lo ts O w hw hlo hlw hx0 hO hg
  have lz : Z ≤ w.heap.size := hw.size
  have lr : R < Z := hw.rz
  have HO := Hid.intro hO
  have HW := Hid.intro hw
  obtain ⟨nn0, tx0, ox0, a0, ln0, cp0, rfl, htx0⟩ := hx0.form2
  have HX0 := Hid.intro hx0
  have HT0 := Hid.intro htx0
  have HKE := Hid.intro KE
  rw [optionsC] at hg
  have HG0 := Hid.intro hg
  clear KE hw hO hg hx0 htx0
  have F0 := fld0; have F1 := fld1; have F2 := fld2; have F3 := fld3
  go_enter Tryz.func168, Tryz.ntmps168
  go_wp2_with fail
  have hm0 : ∀ W : World, W.heap.size = w.heap.size + 3 → MB ((W.alloc (.cells #[.int .i64 (x0.kind : Int), .string tx0, .string ox0, .int .i64 nn0, .int .i64 (x0.pl : Int), .slice a0 ln0 cp0, .int .i64 3, .string ⟨#[]⟩, .string ⟨#[]⟩, .int .i64 0, .int .i64 (p0 : Nat), .slice none 0 0, .int .i64 3, .string ⟨#[]⟩, .string ⟨#[]⟩, .int .i64 0, .int .i64 (p0 : Nat), .slice none 0 0] 49)).alloc (.cells #[.int .i64 24, .string ⟨#[]⟩, .string ⟨#[]⟩, .int .i64 0, .int .i64 (p0 : Nat), .slice (some ⟨w.heap.size + 3, 0, none⟩) 3 3] 49)) (w.heap.size + 4) (w.heap.size + 3) ⟨#[]⟩ 0 p0 (kids3 (.agg #[.int .i64 (x0.kind : Int), .string tx0, .string ox0, .int .i64 nn0, .int .i64 (x0.pl : Int), .slice a0 ln0 cp0]) (.agg #[.int .i64 3, .string ⟨#[]⟩, .string ⟨#[]⟩, .int .i64 0, .int .i64 (p0 : Nat), .slice none 0 0]) (.agg #[.int .i64 3, .string ⟨#[]⟩, .string ⟨#[]⟩, .int .i64 0, .int .i64 (p0 : Nat), .slice none 0 0])) := by
    intro W hW
    obtain ⟨e1, e2⟩ := heap_new2 W (.cells #[.int .i64 (x0.kind : Int), .string tx0, .string ox0, .int .i64 nn0, .int .i64 (x0.pl : Int), .slice a0 ln0 cp0, .int .i64 3, .string ⟨#[]⟩, .string ⟨#[]⟩, .int .i64 0, .int .i64 (p0 : Nat), .slice none 0 0, .int .i64 3, .string ⟨#[]⟩, .string ⟨#[]⟩, .int .i64 0, .int .i64 (p0 : Nat), .slice none 0 0] 49) (.cells #[.int .i64 24, .string ⟨#[]⟩, .string ⟨#[]⟩, .int .i64 0, .int .i64 (p0 : Nat), .slice (some ⟨w.heap.size + 3, 0, none⟩) 3 3] 49)
    rw [hW] at e1 e2
    exact ⟨e2, _, e1, rfl, fun i hi => kids3_arr _ _ _ _ _ _ _ _ _ _ _ _ _ _ _ _ _ _ i hi⟩
  have HM0 := Hid.intro hm0
  clear hm0
  refine (arm0 HKE.out (M := w.heap.size + 4) (K := w.heap.size + 3) (p0 := p0) (tx := ⟨#[]⟩) (kn := fun a => mayC [124] (mayC [115, 111, 109, 101] (someArm fun n b => .ret (.mk 24 n [] 3 p0 [x0, a, b])) .stop) (.ret (.mk 24 [] [] 1 p0 [x0, a, unitE p0]))) (ks := fun n b => mayC [124] (mayC [110, 111, 110, 101] (noneArm fun a => .ret (.mk 24 n [] 3 p0 [x0, a, b])) .stop) (.ret (.mk 24 n [] 2 p0 [x0, unitE p0, b]))) (HW.out.below (by repeat (first | with_reducible exact Below.refl _ _ | with_reducible refine Below.alloc ?_ (by first | omega | (simp; done) | (simp; omega)) _ | with_reducible refine Below.drew ?_ | with_reducible refine Below.setCell ?_ (by first | (dsimp only; omega) | (simp; omega)) _ ))) (by first | omega | (simp; done) | (simp; omega)) (by first | omega | (simp; done) | (simp; omega)) (by omega) (HM0.out _ (by simp)) HO.out (by unfold armC; rw [if_neg (by decide), if_neg (by decide)]; exact HG0.out)).mono ?_
  rintro e w1 ⟨hb1, ⟨rfl, r1, v1, x1, hs, hx1, ⟨hm, hG, -⟩ | ⟨tn, hm, hG, -⟩⟩ | ⟨c, p, rfl, hG⟩⟩
  rotate_left
  rotate_left
  · exact ⟨rfl, (by repeat (first | with_reducible exact But.refl _ _ | with_reducible refine But.alloc ?_ _ | with_reducible refine But.drew ?_ | with_reducible refine But.setCell ?_ (by first | (left; dsimp only; omega) | (left; simp; omega)) _ | with_reducible refine But.trans ?_ (by assumption) | with_reducible refine But.of3 ?_ (by assumption) (by first | omega | (simp; done) | (simp; omega)) (by first | omega | (simp; done) | (simp; omega)) | with_reducible refine But.below ?_ (by assumption))), Or.inr ⟨c, p, rfl, hG⟩⟩
  · have l1 := hb1.size
    (try simp at l1)
    obtain ⟨nn1, tx1, ox1, a1, ln1, cp1, rfl, htx1⟩ := hx1.form2
    have HX1 := Hid.intro (hx1.low (lo' := w.heap.size + 5) (by first | omega | (simp; done) | (simp; omega)))
    clear hx1 htx1
    have HM1 : Hid (MB w1 (w.heap.size + 4) (w.heap.size + 3) ⟨#[]⟩ 1 p0 (kids3 (.agg #[.int .i64 (x0.kind : Int), .string tx0, .string ox0, .int .i64 nn0, .int .i64 (x0.pl : Int), .slice a0 ln0 cp0]) (.agg #[.int .i64 (x1.kind : Int), .string tx1, .string ox1, .int .i64 nn1, .int .i64 (x1.pl : Int), .slice a1 ln1 cp1]) (.agg #[.int .i64 3, .string ⟨#[]⟩, .string ⟨#[]⟩, .int .i64 0, .int .i64 (p0 : Nat), .slice none 0 0]))) := hm.to (by rfl) (fun i _ => by rw [kids3_second])
    have HG1 := Hid.intro hG
    have HS1 := Hid.intro hs
    clear hm hG hs HM0
    obtain ⟨⟨q1_0, q1_1, q1_2, q1_3, q1_4, q1_5⟩, q1_f, q1_l⟩ := keep63 hb1 (w.heap.size + 1) (by first | omega | (simp; done) | (simp; omega)) (by first | omega | (simp; done) | (simp; omega)) (by first | omega | (simp; done) | (simp; omega)) (.int .i64 0) (.string ⟨#[]⟩) (.string ⟨#[]⟩) (.int .i64 0) (.int .i64 0) (.slice none 0 0) (by first | omega | (simp; done) | (simp; omega)) (by go_simp) (by go_simp) (by go_simp) (by go_simp) (by go_simp) (by go_simp) (by go_simp)
    have q1_f0 := q1_f 0
    have q1_f1 := q1_f 1
    have q1_f2 := q1_f 2
    have q1_f3 := q1_f 3
    have q1_f4 := q1_f 4
    have q1_f5 := q1_f 5
    go_wp2_with fail
    refine (may_step ⟨#[124]⟩ (by decide) _ (HS1.out.below (by repeat (first | with_reducible exact Below.refl _ _ | with_reducible refine Below.alloc ?_ (by first | omega | (simp; done) | (simp; omega)) _ | with_reducible refine Below.drew ?_ | with_reducible refine Below.setCell ?_ (by first | (dsimp only; omega) | (simp; omega)) _ ))) HG1.out).mono ?_
    rintro e w2 ⟨hb2, ⟨rfl, r2, hs, hG⟩ | ⟨rfl, hs, hG⟩⟩
    · have l2 := hb2.size
      (try simp at l2)
      obtain ⟨⟨q2_0, q2_1, q2_2, q2_3, q2_4, q2_5⟩, q2_f, q2_l⟩ := keep6 hb2 (w.heap.size + 1) (by first | omega | (simp; done) | (simp; omega)) (.int .i64 0) (.string ⟨#[]⟩) (.string ⟨#[]⟩) (.int .i64 0) (.int .i64 0) (.slice none 0 0) (by first | omega | (simp; done) | (simp; omega)) (by go_simp) (by go_simp) (by go_simp) (by go_simp) (by go_simp) (by go_simp) (by go_simp)
      have q2_f0 := q2_f 0
      have q2_f1 := q2_f 1
      have q2_f2 := q2_f 2
      have q2_f3 := q2_f 3
      have q2_f4 := q2_f 4
      have q2_f5 := q2_f 5
      clear q1_0 q1_1 q1_2 q1_3 q1_4 q1_5 q1_f0 q1_f1 q1_f2 q1_f3 q1_f4 q1_f5 q1_f
      have HM2 := Hid.intro (MB.but HM1.out hb2 (by omega) (by omega))
      have HG2 := Hid.intro hG
      have HS2 := Hid.intro hs
      clear hG hs
      go_wp2_with fail
      refine (arm1 HKE.out (M := w.heap.size + 4) (K := w.heap.size + 3) (p0 := p0) (tx := ⟨#[]⟩) (kn := fun a => .ret a) (ks := fun n b => .ret (.mk 24 n [] 3 p0 [x0, x1, b])) (HS2.out.below (by repeat (first | with_reducible exact Below.refl _ _ | with_reducible refine Below.alloc ?_ (by first | omega | (simp; done) | (simp; omega)) _ | with_reducible refine Below.drew ?_ | with_reducible refine Below.setCell ?_ (by first | (dsimp only; omega) | (simp; omega)) _ ))) (by first | omega | (simp; done) | (simp; omega)) (by first | omega | (simp; done) | (simp; omega)) (by omega) HM2.out HO.out (by unfold armC; rw [if_pos rfl]; exact HG2.out)).mono ?_
      rintro e w3 ⟨hb3, ⟨rfl, r3, v3, x3, hs, hx3, ⟨_, _, hno⟩ | ⟨tn, hm, hG, -⟩⟩ | ⟨c, p, rfl, hG⟩⟩
      · exact absurd rfl hno
      rotate_left
      · exact ⟨rfl, (by repeat (first | with_reducible exact But.refl _ _ | with_reducible refine But.alloc ?_ _ | with_reducible refine But.drew ?_ | with_reducible refine But.setCell ?_ (by first | (left; dsimp only; omega) | (left; simp; omega)) _ | with_reducible refine But.trans ?_ (by assumption) | with_reducible refine But.of3 ?_ (by assumption) (by first | omega | (simp; done) | (simp; omega)) (by first | omega | (simp; done) | (simp; omega)) | with_reducible refine But.below ?_ (by assumption))), Or.inr ⟨c, p, rfl, hG⟩⟩
      obtain ⟨nn3, tx3, ox3, a3, ln3, cp3, rfl, htx3⟩ := hx3.form2
      have HX3 := Hid.intro hx3
      clear hx3 htx3
      have l3 := hb3.size
      (try simp at l3)
      have HM3 : Hid (MB w3 (w.heap.size + 4) (w.heap.size + 3) ⟨tn.toArray⟩ 3 p0 (kids3 (.agg #[.int .i64 (x0.kind : Int), .string tx0, .string ox0, .int .i64 nn0, .int .i64 (x0.pl : Int), .slice a0 ln0 cp0]) (.agg #[.int .i64 (x1.kind : Int), .string tx1, .string ox1, .int .i64 nn1, .int .i64 (x1.pl : Int), .slice a1 ln1 cp1]) (.agg #[.int .i64 (x3.kind : Int), .string tx3, .string ox3, .int .i64 nn3, .int .i64 (x3.pl : Int), .slice a3 ln3 cp3]))) := hm.to (by rfl) (fun i hi => kids3_third _ _ _ _ hi)
      have HG3 := Hid.intro hG
      have HS3 := Hid.intro hs
      clear hm hG hs
      obtain ⟨⟨q3_0, q3_1, q3_2, q3_3, q3_4, q3_5⟩, q3_f, q3_l⟩ := keep63 hb3 (w.heap.size + 1) (by first | omega | (simp; done) | (simp; omega)) (by first | omega | (simp; done) | (simp; omega)) (by first | omega | (simp; done) | (simp; omega)) (.int .i64 0) (.string ⟨#[]⟩) (.string ⟨#[]⟩) (.int .i64 0) (.int .i64 0) (.slice none 0 0) (by first | omega | (simp; done) | (simp; omega)) (by go_simp) (by go_simp) (by go_simp) (by go_simp) (by go_simp) (by go_simp) (by go_simp)
      have q3_f0 := q3_f 0
      have q3_f1 := q3_f 1
      have q3_f2 := q3_f 2
      have q3_f3 := q3_f 3
      have q3_f4 := q3_f 4
      have q3_f5 := q3_f 5
      clear q2_0 q2_1 q2_2 q2_3 q2_4 q2_5 q2_f0 q2_f1 q2_f2 q2_f3 q2_f4 q2_f5 q2_f
      obtain ⟨⟨mm0, mm1, mm2, mm3, mm4, mm5⟩, mmf, mml⟩ := HM3.out.cells
      clear mmf
      go_wp2
      refine bodyPost_ret (v := .agg #[.int .i64 24, .string ⟨tn.toArray⟩, .string ⟨#[]⟩, .int .i64 3, .int .i64 (p0 : Nat), .slice (some ⟨w.heap.size + 3, 0, none⟩) 3 3]) (by simp [results, Tryz.results168, go_sem, *]) rfl ⟨(by repeat (first | with_reducible exact But.refl _ _ | with_reducible refine But.alloc ?_ _ | with_reducible refine But.drew ?_ | with_reducible refine But.setCell ?_ (by first | (left; dsimp only; omega) | (left; simp; omega)) _ | with_reducible refine But.trans ?_ (by assumption) | with_reducible refine But.of3 ?_ (by assumption) (by first | omega | (simp; done) | (simp; omega)) (by first | omega | (simp; done) | (simp; omega)) | with_reducible refine But.below ?_ (by assumption))), Or.inl ⟨_, _, _, rfl, ?_, (HS3.out.below (by repeat (first | with_reducible exact Below.refl _ _ | with_reducible refine Below.alloc ?_ (by first | omega | (simp; done) | (simp; omega)) _ | with_reducible refine Below.drew ?_ | with_reducible refine Below.setCell ?_ (by first | (dsimp only; omega) | (simp; omega)) _ ))), HG3.out.symm⟩⟩
      refine MB.ex (M := w.heap.size + 4) (K := w.heap.size + 3) (t := tn) (nb := 3) (p := p0) (a := .agg #[.int .i64 (x0.kind : Int), .string tx0, .string ox0, .int .i64 nn0, .int .i64 (x0.pl : Int), .slice a0 ln0 cp0]) (b := .agg #[.int .i64 (x1.kind : Int), .string tx1, .string ox1, .int .i64 nn1, .int .i64 (x1.pl : Int), .slice a1 ln1 cp1]) (c := .agg #[.int .i64 (x3.kind : Int), .string tx3, .string ox3, .int .i64 nn3, .int .i64 (x3.pl : Int), .slice a3 ln3 cp3]) ?_ (by first | omega | (simp; done) | (simp; omega)) ((HX0.out.keep (by repeat (first | with_reducible exact Kept.refl _ _ | with_reducible refine Kept.alloc ?_ _ | with_reducible refine Kept.drew ?_ | with_reducible refine Kept.setCell ?_ (by first | (left; dsimp only; omega) | (right; dsimp only; omega) | (left; simp; omega) | (right; simp; omega)) _ | with_reducible refine Kept.but ?_ (by assumption) (by first | omega | (simp; omega)) | with_reducible refine Kept.but3 ?_ (by assumption) (by first | omega | (simp; omega)) (by first | omega | (simp; omega)) (by first | omega | (simp; omega)) | with_reducible refine Kept.below ?_ (by assumption)))).low (by first | omega | (simp; done) | (simp; omega))) ((HX1.out.keep (by repeat (first | with_reducible exact Kept.refl _ _ | with_reducible refine Kept.alloc ?_ _ | with_reducible refine Kept.drew ?_ | with_reducible refine Kept.setCell ?_ (by first | (left; dsimp only; omega) | (right; dsimp only; omega) | (left; simp; omega) | (right; simp; omega)) _ | with_reducible refine Kept.but ?_ (by assumption) (by first | omega | (simp; omega)) | with_reducible refine Kept.but3 ?_ (by assumption) (by first | omega | (simp; omega)) (by first | omega | (simp; omega)) (by first | omega | (simp; omega)) | with_reducible refine Kept.below ?_ (by assumption)))).low (by first | omega | (simp; done) | (simp; omega))) ((HX3.out.keep (by repeat (first | with_reducible exact Kept.refl _ _ | with_reducible refine Kept.alloc ?_ _ | with_reducible refine Kept.drew ?_ | with_reducible refine Kept.setCell ?_ (by first | (left; dsimp only; omega) | (right; dsimp only; omega) | (left; simp; omega) | (right; simp; omega)) _ | with_reducible refine Kept.but ?_ (by assumption) (by first | omega | (simp; omega)) | with_reducible refine Kept.but3 ?_ (by assumption) (by first | omega | (simp; omega)) (by first | omega | (simp; omega)) (by first | omega | (simp; omega)) | with_reducible refine Kept.below ?_ (by assumption)))).low (by first | omega | (simp; done) | (simp; omega)))
      refine MB.set (MB.set (MB.set (MB.set (MB.set (MB.set HM3.out ?_ ?_ _) ?_ ?_ _) ?_ ?_ _) ?_ ?_ _) ?_ ?_ _) ?_ ?_ _
      all_goals (dsimp only; omega)
    · have l2 := hb2.size
      (try simp at l2)
      obtain ⟨⟨q4_0, q4_1, q4_2, q4_3, q4_4, q4_5⟩, q4_f, q4_l⟩ := keep6 hb2 (w.heap.size + 1) (by first | omega | (simp; done) | (simp; omega)) (.int .i64 0) (.string ⟨#[]⟩) (.string ⟨#[]⟩) (.int .i64 0) (.int .i64 0) (.slice none 0 0) (by first | omega | (simp; done) | (simp; omega)) (by go_simp) (by go_simp) (by go_simp) (by go_simp) (by go_simp) (by go_simp) (by go_simp)
      have q4_f0 := q4_f 0
      have q4_f1 := q4_f 1
      have q4_f2 := q4_f 2
      have q4_f3 := q4_f 3
      have q4_f4 := q4_f 4
      have q4_f5 := q4_f 5
      clear q1_0 q1_1 q1_2 q1_3 q1_4 q1_5 q1_f0 q1_f1 q1_f2 q1_f3 q1_f4 q1_f5 q1_f
      have HM2 := Hid.intro (MB.but HM1.out hb2 (by omega) (by omega))
      have HG2 := Hid.intro hG
      have HS2 := Hid.intro hs
      clear hG hs
      obtain ⟨⟨mm0, mm1, mm2, mm3, mm4, mm5⟩, mmf, mml⟩ := HM2.out.cells
      clear mmf
      go_wp2
      refine bodyPost_ret (v := .agg #[.int .i64 24, .string ⟨#[]⟩, .string ⟨#[]⟩, .int .i64 1, .int .i64 (p0 : Nat), .slice (some ⟨w.heap.size + 3, 0, none⟩) 3 3]) (by simp [results, Tryz.results168, go_sem, *]) rfl ⟨(by repeat (first | with_reducible exact But.refl _ _ | with_reducible refine But.alloc ?_ _ | with_reducible refine But.drew ?_ | with_reducible refine But.setCell ?_ (by first | (left; dsimp only; omega) | (left; simp; omega)) _ | with_reducible refine But.trans ?_ (by assumption) | with_reducible refine But.of3 ?_ (by assumption) (by first | omega | (simp; done) | (simp; omega)) (by first | omega | (simp; done) | (simp; omega)) | with_reducible refine But.below ?_ (by assumption))), Or.inl ⟨_, _, _, rfl, ?_, (HS2.out.below (by repeat (first | with_reducible exact Below.refl _ _ | with_reducible refine Below.alloc ?_ (by first | omega | (simp; done) | (simp; omega)) _ | with_reducible refine Below.drew ?_ | with_reducible refine Below.setCell ?_ (by first | (dsimp only; omega) | (simp; omega)) _ ))), HG2.out.symm⟩⟩
      refine MB.ex (M := w.heap.size + 4) (K := w.heap.size + 3) (t := []) (nb := 1) (p := p0) (a := .agg #[.int .i64 (x0.kind : Int), .string tx0, .string ox0, .int .i64 nn0, .int .i64 (x0.pl : Int), .slice a0 ln0 cp0]) (b := .agg #[.int .i64 (x1.kind : Int), .string tx1, .string ox1, .int .i64 nn1, .int .i64 (x1.pl : Int), .slice a1 ln1 cp1]) (c := .agg #[.int .i64 3, .string ⟨#[]⟩, .string ⟨#[]⟩, .int .i64 0, .int .i64 (p0 : Nat), .slice none 0 0]) ?_ (by first | omega | (simp; done) | (simp; omega)) ((HX0.out.keep (by repeat (first | with_reducible exact Kept.refl _ _ | with_reducible refine Kept.alloc ?_ _ | with_reducible refine Kept.drew ?_ | with_reducible refine Kept.setCell ?_ (by first | (left; dsimp only; omega) | (right; dsimp only; omega) | (left; simp; omega) | (right; simp; omega)) _ | with_reducible refine Kept.but ?_ (by assumption) (by first | omega | (simp; omega)) | with_reducible refine Kept.but3 ?_ (by assumption) (by first | omega | (simp; omega)) (by first | omega | (simp; omega)) (by first | omega | (simp; omega)) | with_reducible refine Kept.below ?_ (by assumption)))).low (by first | omega | (simp; done) | (simp; omega))) ((HX1.out.keep (by repeat (first | with_reducible exact Kept.refl _ _ | with_reducible refine Kept.alloc ?_ _ | with_reducible refine Kept.drew ?_ | with_reducible refine Kept.setCell ?_ (by first | (left; dsimp only; omega) | (right; dsimp only; omega) | (left; simp; omega) | (right; simp; omega)) _ | with_reducible refine Kept.but ?_ (by assumption) (by first | omega | (simp; omega)) | with_reducible refine Kept.but3 ?_ (by assumption) (by first | omega | (simp; omega)) (by first | omega | (simp; omega)) (by first | omega | (simp; omega)) | with_reducible refine Kept.below ?_ (by assumption)))).low (by first | omega | (simp; done) | (simp; omega))) (ExV.leaf 3 [] [] 0 p0)
      refine MB.set (MB.set (MB.set (MB.set (MB.set (MB.set HM2.out ?_ ?_ _) ?_ ?_ _) ?_ ?_ _) ?_ ?_ _) ?_ ?_ _) ?_ ?_ _
      all_goals (dsimp only; omega)
  · have l1 := hb1.size
    (try simp at l1)
    obtain ⟨nn1, tx1, ox1, a1, ln1, cp1, rfl, htx1⟩ := hx1.form2
    have HX1 := Hid.intro (hx1.low (lo' := w.heap.size + 5) (by first | omega | (simp; done) | (simp; omega)))
    clear hx1 htx1
    have HM1 : Hid (MB w1 (w.heap.size + 4) (w.heap.size + 3) ⟨tn.toArray⟩ 2 p0 (kids3 (.agg #[.int .i64 (x0.kind : Int), .string tx0, .string ox0, .int .i64 nn0, .int .i64 (x0.pl : Int), .slice a0 ln0 cp0]) (.agg #[.int .i64 3, .string ⟨#[]⟩, .string ⟨#[]⟩, .int .i64 0, .int .i64 (p0 : Nat), .slice none 0 0]) (.agg #[.int .i64 (x1.kind : Int), .string tx1, .string ox1, .int .i64 nn1, .int .i64 (x1.pl : Int), .slice a1 ln1 cp1]))) := hm.to (by rfl) (fun i hi => kids3_third _ _ _ _ hi)
    have HG1 := Hid.intro hG
    have HS1 := Hid.intro hs
    clear hm hG hs HM0
    obtain ⟨⟨q5_0, q5_1, q5_2, q5_3, q5_4, q5_5⟩, q5_f, q5_l⟩ := keep63 hb1 (w.heap.size + 1) (by first | omega | (simp; done) | (simp; omega)) (by first | omega | (simp; done) | (simp; omega)) (by first | omega | (simp; done) | (simp; omega)) (.int .i64 0) (.string ⟨#[]⟩) (.string ⟨#[]⟩) (.int .i64 0) (.int .i64 0) (.slice none 0 0) (by first | omega | (simp; done) | (simp; omega)) (by go_simp) (by go_simp) (by go_simp) (by go_simp) (by go_simp) (by go_simp) (by go_simp)
    have q5_f0 := q5_f 0
    have q5_f1 := q5_f 1
    have q5_f2 := q5_f 2
    have q5_f3 := q5_f 3
    have q5_f4 := q5_f 4
    have q5_f5 := q5_f 5
    go_wp2_with fail
    refine (may_step ⟨#[124]⟩ (by decide) _ (HS1.out.below (by repeat (first | with_reducible exact Below.refl _ _ | with_reducible refine Below.alloc ?_ (by first | omega | (simp; done) | (simp; omega)) _ | with_reducible refine Below.drew ?_ | with_reducible refine Below.setCell ?_ (by first | (dsimp only; omega) | (simp; omega)) _ ))) HG1.out).mono ?_
    rintro e w4 ⟨hb4, ⟨rfl, r4, hs, hG⟩ | ⟨rfl, hs, hG⟩⟩
    · have l4 := hb4.size
      (try simp at l4)
      obtain ⟨⟨q6_0, q6_1, q6_2, q6_3, q6_4, q6_5⟩, q6_f, q6_l⟩ := keep6 hb4 (w.heap.size + 1) (by first | omega | (simp; done) | (simp; omega)) (.int .i64 0) (.string ⟨#[]⟩) (.string ⟨#[]⟩) (.int .i64 0) (.int .i64 0) (.slice none 0 0) (by first | omega | (simp; done) | (simp; omega)) (by go_simp) (by go_simp) (by go_simp) (by go_simp) (by go_simp) (by go_simp) (by go_simp)
      have q6_f0 := q6_f 0
      have q6_f1 := q6_f 1
      have q6_f2 := q6_f 2
      have q6_f3 := q6_f 3
      have q6_f4 := q6_f 4
      have q6_f5 := q6_f 5
      clear q5_0 q5_1 q5_2 q5_3 q5_4 q5_5 q5_f0 q5_f1 q5_f2 q5_f3 q5_f4 q5_f5 q5_f
      have HM4 := Hid.intro (MB.but HM1.out hb4 (by omega) (by omega))
      have HG4 := Hid.intro hG
      have HS4 := Hid.intro hs
      clear hG hs
      go_wp2_with fail
      refine (arm2 HKE.out (M := w.heap.size + 4) (K := w.heap.size + 3) (p0 := p0) (tx := ⟨tn.toArray⟩) (kn := fun a => .ret (.mk 24 tn [] 3 p0 [x0, a, x1])) (ks := fun _ a => .ret a) (HS4.out.below (by repeat (first | with_reducible exact Below.refl _ _ | with_reducible refine Below.alloc ?_ (by first | omega | (simp; done) | (simp; omega)) _ | with_reducible refine Below.drew ?_ | with_reducible refine Below.setCell ?_ (by first | (dsimp only; omega) | (simp; omega)) _ ))) (by first | omega | (simp; done) | (simp; omega)) (by first | omega | (simp; done) | (simp; omega)) (by omega) HM4.out HO.out (by unfold armC; rw [if_neg (by decide), if_pos rfl]; exact HG4.out)).mono ?_
      rintro e w5 ⟨hb5, ⟨rfl, r5, v5, x5, hs, hx5, ⟨hm, hG, -⟩ | ⟨_, _, _, hno⟩⟩ | ⟨c, p, rfl, hG⟩⟩
      rotate_left
      · exact absurd rfl hno
      · exact ⟨rfl, (by repeat (first | with_reducible exact But.refl _ _ | with_reducible refine But.alloc ?_ _ | with_reducible refine But.drew ?_ | with_reducible refine But.setCell ?_ (by first | (left; dsimp only; omega) | (left; simp; omega)) _ | with_reducible refine But.trans ?_ (by assumption) | with_reducible refine But.of3 ?_ (by assumption) (by first | omega | (simp; done) | (simp; omega)) (by first | omega | (simp; done) | (simp; omega)) | with_reducible refine But.below ?_ (by assumption))), Or.inr ⟨c, p, rfl, hG⟩⟩
      obtain ⟨nn5, tx5, ox5, a5, ln5, cp5, rfl, htx5⟩ := hx5.form2
      have HX5 := Hid.intro hx5
      clear hx5 htx5
      have l5 := hb5.size
      (try simp at l5)
      have HM5 : Hid (MB w5 (w.heap.size + 4) (w.heap.size + 3) ⟨tn.toArray⟩ 3 p0 (kids3 (.agg #[.int .i64 (x0.kind : Int), .string tx0, .string ox0, .int .i64 nn0, .int .i64 (x0.pl : Int), .slice a0 ln0 cp0]) (.agg #[.int .i64 (x5.kind : Int), .string tx5, .string ox5, .int .i64 nn5, .int .i64 (x5.pl : Int), .slice a5 ln5 cp5]) (.agg #[.int .i64 (x1.kind : Int), .string tx1, .string ox1, .int .i64 nn1, .int .i64 (x1.pl : Int), .slice a1 ln1 cp1]))) := hm.to (by rfl) (fun i _ => by rw [kids3_second])
      have HG5 := Hid.intro hG
      have HS5 := Hid.intro hs
      clear hm hG hs
      obtain ⟨⟨q7_0, q7_1, q7_2, q7_3, q7_4, q7_5⟩, q7_f, q7_l⟩ := keep63 hb5 (w.heap.size + 1) (by first | omega | (simp; done) | (simp; omega)) (by first | omega | (simp; done) | (simp; omega)) (by first | omega | (simp; done) | (simp; omega)) (.int .i64 0) (.string ⟨#[]⟩) (.string ⟨#[]⟩) (.int .i64 0) (.int .i64 0) (.slice none 0 0) (by first | omega | (simp; done) | (simp; omega)) (by go_simp) (by go_simp) (by go_simp) (by go_simp) (by go_simp) (by go_simp) (by go_simp)
      have q7_f0 := q7_f 0
      have q7_f1 := q7_f 1
      have q7_f2 := q7_f 2
      have q7_f3 := q7_f 3
      have q7_f4 := q7_f 4
      have q7_f5 := q7_f 5
      clear q6_0 q6_1 q6_2 q6_3 q6_4 q6_5 q6_f0 q6_f1 q6_f2 q6_f3 q6_f4 q6_f5 q6_f
      obtain ⟨⟨mm0, mm1, mm2, mm3, mm4, mm5⟩, mmf, mml⟩ := HM5.out.cells
      clear mmf
      go_wp2
      refine bodyPost_ret (v := .agg #[.int .i64 24, .string ⟨tn.toArray⟩, .string ⟨#[]⟩, .int .i64 3, .int .i64 (p0 : Nat), .slice (some ⟨w.heap.size + 3, 0, none⟩) 3 3]) (by simp [results, Tryz.results168, go_sem, *]) rfl ⟨(by repeat (first | with_reducible exact But.refl _ _ | with_reducible refine But.alloc ?_ _ | with_reducible refine But.drew ?_ | with_reducible refine But.setCell ?_ (by first | (left; dsimp only; omega) | (left; simp; omega)) _ | with_reducible refine But.trans ?_ (by assumption) | with_reducible refine But.of3 ?_ (by assumption) (by first | omega | (simp; done) | (simp; omega)) (by first | omega | (simp; done) | (simp; omega)) | with_reducible refine But.below ?_ (by assumption))), Or.inl ⟨_, _, _, rfl, ?_, (HS5.out.below (by repeat (first | with_reducible exact Below.refl _ _ | with_reducible refine Below.alloc ?_ (by first | omega | (simp; done) | (simp; omega)) _ | with_reducible refine Below.drew ?_ | with_reducible refine Below.setCell ?_ (by first | (dsimp only; omega) | (simp; omega)) _ ))), HG5.out.symm⟩⟩
      refine MB.ex (M := w.heap.size + 4) (K := w.heap.size + 3) (t := tn) (nb := 3) (p := p0) (a := .agg #[.int .i64 (x0.kind : Int), .string tx0, .string ox0, .int .i64 nn0, .int .i64 (x0.pl : Int), .slice a0 ln0 cp0]) (b := .agg #[.int .i64 (x5.kind : Int), .string tx5, .string ox5, .int .i64 nn5, .int .i64 (x5.pl : Int), .slice a5 ln5 cp5]) (c := .agg #[.int .i64 (x1.kind : Int), .string tx1, .string ox1, .int .i64 nn1, .int .i64 (x1.pl : Int), .slice a1 ln1 cp1]) ?_ (by first | omega | (simp; done) | (simp; omega)) ((HX0.out.keep (by repeat (first | with_reducible exact Kept.refl _ _ | with_reducible refine Kept.alloc ?_ _ | with_reducible refine Kept.drew ?_ | with_reducible refine Kept.setCell ?_ (by first | (left; dsimp only; omega) | (right; dsimp only; omega) | (left; simp; omega) | (right; simp; omega)) _ | with_reducible refine Kept.but ?_ (by assumption) (by first | omega | (simp; omega)) | with_reducible refine Kept.but3 ?_ (by assumption) (by first | omega | (simp; omega)) (by first | omega | (simp; omega)) (by first | omega | (simp; omega)) | with_reducible refine Kept.below ?_ (by assumption)))).low (by first | omega | (simp; done) | (simp; omega))) ((HX5.out.keep (by repeat (first | with_reducible exact Kept.refl _ _ | with_reducible refine Kept.alloc ?_ _ | with_reducible refine Kept.drew ?_ | with_reducible refine Kept.setCell ?_ (by first | (left; dsimp only; omega) | (right; dsimp only; omega) | (left; simp; omega) | (right; simp; omega)) _ | with_reducible refine Kept.but ?_ (by assumption) (by first | omega | (simp; omega)) | with_reducible refine Kept.but3 ?_ (by assumption) (by first | omega | (simp; omega)) (by first | omega | (simp; omega)) (by first | omega | (simp; omega)) | with_reducible refine Kept.below ?_ (by assumption)))).low (by first | omega | (simp; done) | (simp; omega))) ((HX1.out.keep (by repeat (first | with_reducible exact Kept.refl _ _ | with_reducible refine Kept.alloc ?_ _ | with_reducible refine Kept.drew ?_ | with_reducible refine Kept.setCell ?_ (by first | (left; dsimp only; omega) | (right; dsimp only; omega) | (left; simp; omega) | (right; simp; omega)) _ | with_reducible refine Kept.but ?_ (by assumption) (by first | omega | (simp; omega)) | with_reducible refine Kept.but3 ?_ (by assumption) (by first | omega | (simp; omega)) (by first | omega | (simp; omega)) (by first | omega | (simp; omega)) | with_reducible refine Kept.below ?_ (by assumption)))).low (by first | omega | (simp; done) | (simp; omega)))
      refine MB.set (MB.set (MB.set (MB.set (MB.set (MB.set HM5.out ?_ ?_ _) ?_ ?_ _) ?_ ?_ _) ?_ ?_ _) ?_ ?_ _) ?_ ?_ _
      all_goals (dsimp only; omega)
    · have l4 := hb4.size
      (try simp at l4)
      obtain ⟨⟨q8_0, q8_1, q8_2, q8_3, q8_4, q8_5⟩, q8_f, q8_l⟩ := keep6 hb4 (w.heap.size + 1) (by first | omega | (simp; done) | (simp; omega)) (.int .i64 0) (.string ⟨#[]⟩) (.string ⟨#[]⟩) (.int .i64 0) (.int .i64 0) (.slice none 0 0) (by first | omega | (simp; done) | (simp; omega)) (by go_simp) (by go_simp) (by go_simp) (by go_simp) (by go_simp) (by go_simp) (by go_simp)
      have q8_f0 := q8_f 0
      have q8_f1 := q8_f 1
      have q8_f2 := q8_f 2
      have q8_f3 := q8_f 3
      have q8_f4 := q8_f 4
      have q8_f5 := q8_f 5
      clear q5_0 q5_1 q5_2 q5_3 q5_4 q5_5 q5_f0 q5_f1 q5_f2 q5_f3 q5_f4 q5_f5 q5_f
      have HM4 := Hid.intro (MB.but HM1.out hb4 (by omega) (by omega))
      have HG4 := Hid.intro hG
      have HS4 := Hid.intro hs
      clear hG hs
      obtain ⟨⟨mm0, mm1, mm2, mm3, mm4, mm5⟩, mmf, mml⟩ := HM4.out.cells
      clear mmf
      go_wp2
      refine bodyPost_ret (v := .agg #[.int .i64 24, .string ⟨tn.toArray⟩, .string ⟨#[]⟩, .int .i64 2, .int .i64 (p0 : Nat), .slice (some ⟨w.heap.size + 3, 0, none⟩) 3 3]) (by simp [results, Tryz.results168, go_sem, *]) rfl ⟨(by repeat (first | with_reducible exact But.refl _ _ | with_reducible refine But.alloc ?_ _ | with_reducible refine But.drew ?_ | with_reducible refine But.setCell ?_ (by first | (left; dsimp only; omega) | (left; simp; omega)) _ | with_reducible refine But.trans ?_ (by assumption) | with_reducible refine But.of3 ?_ (by assumption) (by first | omega | (simp; done) | (simp; omega)) (by first | omega | (simp; done) | (simp; omega)) | with_reducible refine But.below ?_ (by assumption))), Or.inl ⟨_, _, _, rfl, ?_, (HS4.out.below (by repeat (first | with_reducible exact Below.refl _ _ | with_reducible refine Below.alloc ?_ (by first | omega | (simp; done) | (simp; omega)) _ | with_reducible refine Below.drew ?_ | with_reducible refine Below.setCell ?_ (by first | (dsimp only; omega) | (simp; omega)) _ ))), HG4.out.symm⟩⟩
      refine MB.ex (M := w.heap.size + 4) (K := w.heap.size + 3) (t := tn) (nb := 2) (p := p0) (a := .agg #[.int .i64 (x0.kind : Int), .string tx0, .string ox0, .int .i64 nn0, .int .i64 (x0.pl : Int), .slice a0 ln0 cp0]) (b := .agg #[.int .i64 3, .string ⟨#[]⟩, .string ⟨#[]⟩, .int .i64 0, .int .i64 (p0 : Nat), .slice none 0 0]) (c := .agg #[.int .i64 (x1.kind : Int), .string tx1, .string ox1, .int .i64 nn1, .int .i64 (x1.pl : Int), .slice a1 ln1 cp1]) ?_ (by first | omega | (simp; done) | (simp; omega)) ((HX0.out.keep (by repeat (first | with_reducible exact Kept.refl _ _ | with_reducible refine Kept.alloc ?_ _ | with_reducible refine Kept.drew ?_ | with_reducible refine Kept.setCell ?_ (by first | (left; dsimp only; omega) | (right; dsimp only; omega) | (left; simp; omega) | (right; simp; omega)) _ | with_reducible refine Kept.but ?_ (by assumption) (by first | omega | (simp; omega)) | with_reducible refine Kept.but3 ?_ (by assumption) (by first | omega | (simp; omega)) (by first | omega | (simp; omega)) (by first | omega | (simp; omega)) | with_reducible refine Kept.below ?_ (by assumption)))).low (by first | omega | (simp; done) | (simp; omega))) (ExV.leaf 3 [] [] 0 p0) ((HX1.out.keep (by repeat (first | with_reducible exact Kept.refl _ _ | with_reducible refine Kept.alloc ?_ _ | with_reducible refine Kept.drew ?_ | with_reducible refine Kept.setCell ?_ (by first | (left; dsimp only; omega) | (right; dsimp only; omega) | (left; simp; omega) | (right; simp; omega)) _ | with_reducible refine Kept.but ?_ (by assumption) (by first | omega | (simp; omega)) | with_reducible refine Kept.but3 ?_ (by assumption) (by first | omega | (simp; omega)) (by first | omega | (simp; omega)) (by first | omega | (simp; omega)) | with_reducible refine Kept.below ?_ (by assumption)))).low (by first | omega | (simp; done) | (simp; omega)))
      refine MB.set (MB.set (MB.set (MB.set (MB.set (MB.set HM4.out ?_ ?_ _) ?_ ?_ _) ?_ ?_ _) ?_ ?_ _) ?_ ?_ _) ?_ ?_ _
      all_goals (dsimp only; omega)
end Go.Proofs.YtkljakeccfnakaaGreatDoor
