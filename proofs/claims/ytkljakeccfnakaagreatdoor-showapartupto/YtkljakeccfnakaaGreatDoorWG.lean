/-
  The walk of ShowApart.
-/
import Derived.Test.YtkljakeccfnakaaGreatDoorWE
namespace Go.Proofs.YtkljakeccfnakaaGreatDoor
open Go.RowKit

/-- What two programs show. -/
theorem showL {hi : Nat} {w : World} {v : Value} {ds : List Dl} {es : List Px} (h : LawK hi w v ds es) (hs : smallP ds es = true) : ∃ T c, (c = 0 ↔ progB ds es = true) ∧ (progB ds es = true → T = shwP ds es) ∧ (c = 0 ∨ c = 3) ∧ ∀ W, Below w.heap.size w W → Calls Tryz.prog 11 #[v] W fun e w' => e = .returned (.tuple #[.string ⟨(T : List UInt8).toArray⟩, .int .i64 c]) ∧ Below W.heap.size W w' := by
  cases hp : progB ds es with
  | false => exact ⟨[], 3, by simp, by simp, Or.inr rfl, fun W hW => by have := h.show hs hW; rw [hp] at this; exact this⟩
  | true => exact ⟨shwP ds es, 0, by simp, fun _ => rfl, Or.inl rfl, fun W hW => by have := h.show hs hW; rw [hp] at this; exact this⟩
set_option maxHeartbeats 16000000 in
theorem apart_walk (ds fs : List Dl) (es gs : List Px) (a1 a2 b1 b2 : Option Addr) (n1 c1 n2 c2 k1 d1 k2 d2 hi : Nat) (w : World) (K : Hid (LawK hi w (.agg #[.slice a1 n1 c1, .slice a2 n2 c2]) ds es)) (L : Hid (LawK hi w (.agg #[.slice b1 k1 d1, .slice b2 k2 d2]) fs gs)) :
    Calls Tryz.prog 7 #[.agg #[.slice a1 n1 c1, .slice a2 n2 c2], .agg #[.slice b1 k1 d1, .slice b2 k2 d2]] w fun e w' => e = .returned (.bool true) ∧ Below w.heap.size w w' := by
  have HA : Hid (∀ W, Below w.heap.size w W → Calls Tryz.prog 9 #[] W fun e w' => e = .returned (.bool true) ∧ Below W.heap.size W w') := fun W hW => K.out.awake hW
  have HS1 : Hid (∀ W, Below w.heap.size w W → Calls Tryz.prog 10 #[.agg #[.slice a1 n1 c1, .slice a2 n2 c2]] W fun e w' => e = .returned (.bool (smallP ds es)) ∧ Below W.heap.size W w') := fun W hW => K.out.small hW
  have HS2 : Hid (∀ W, Below w.heap.size w W → Calls Tryz.prog 10 #[.agg #[.slice b1 k1 d1, .slice b2 k2 d2]] W fun e w' => e = .returned (.bool (smallP fs gs)) ∧ Below W.heap.size W w') := fun W hW => L.out.small hW
  have HQ : Hid (∀ W, Below w.heap.size w W → Calls Tryz.prog 16 #[.agg #[.slice a1 n1 c1, .slice a2 n2 c2], .agg #[.slice b1 k1 d1, .slice b2 k2 d2], .bool false] W fun e w' => e = .returned (.bool (yes (SameP ds fs es gs))) ∧ Below W.heap.size W w') := fun W hW =>
    sameP_any ds fs es gs _ _ hi hi W (K.out.pv.keep (hW.mono K.out.hhi)) (L.out.pv.keep (hW.mono L.out.hhi)) (Nat.le_trans K.out.hhi hW.size) (Nat.le_trans L.out.hhi hW.size)
  have HT1 := Hid.intro fun h : smallP ds es = true => showL K.out h
  have HT2 := Hid.intro fun h : smallP fs gs = true => showL L.out h
  have HTS : Hid (progB ds es = true → progB fs gs = true → (shwP ds es = shwP fs gs ↔ SameP ds fs es gs)) := fun h1 h2 => ⟨text_same h1 h2, sameP_text⟩
  obtain ⟨yy, hyy⟩ : ∃ yy, yy = yes (SameP ds fs es gs) := ⟨_, rfl⟩
  have HYY := Hid.intro hyy
  rw [← hyy] at HQ
  clear hyy
  generalize smallP ds es = s1 at *
  generalize smallP fs gs = s2 at *
  cases s1 with
  | false =>
    go_enter Tryz.func7, Tryz.ntmps7
    go_wp2_with fail
    refine (HA.out _ (ba (ba (Below.refl _ _)))).mono ?_
    rintro e w1 ⟨rfl, hb1⟩
    have p0 : w1.cell? ⟨w.heap.size, 0, none⟩ = some (.slice a1 n1 c1) := (hb1.cell (p := ⟨w.heap.size, 0, none⟩) (by simp; omega)).trans (by go_simp)
    have p1 : w1.cell? ⟨w.heap.size, 1, none⟩ = some (.slice a2 n2 c2) := (hb1.cell (p := ⟨w.heap.size, 1, none⟩) (by simp; omega)).trans (by go_simp)
    have p2 : w1.cell? ⟨w.heap.size + 1, 0, none⟩ = some (.slice b1 k1 d1) := (hb1.cell (p := ⟨w.heap.size + 1, 0, none⟩) (by simp)).trans (by go_simp)
    have p3 : w1.cell? ⟨w.heap.size + 1, 1, none⟩ = some (.slice b2 k2 d2) := (hb1.cell (p := ⟨w.heap.size + 1, 1, none⟩) (by simp)).trans (by go_simp)
    have l1 := lt_cell p0
    have m1 := lt_cell p2
    have HB1 : Hid (Below w.heap.size w w1) := bl2 (ba (ba (Below.refl _ _))) hb1
    clear hb1
    go_wp2_with fail
    refine (HS1.out _ HB1.out).mono ?_
    rintro e w2 ⟨rfl, hb2⟩
    go_wp2_with fail
    go_ret
    exact ⟨rfl, bl2 HB1.out hb2⟩
  | true =>
    obtain ⟨T1, e1, hq1, hr1, hc1, hw1⟩ := HT1.out rfl
    have HW1 := Hid.intro hw1
    have HC1 := Hid.intro (And.intro hq1 hr1)
    clear hw1 hq1 hr1 HT1
    cases s2 with
    | false =>
      go_enter Tryz.func7, Tryz.ntmps7
      go_wp2_with fail
      refine (HA.out _ (ba (ba (Below.refl _ _)))).mono ?_
      rintro e w1 ⟨rfl, hb1⟩
      have p0 : w1.cell? ⟨w.heap.size, 0, none⟩ = some (.slice a1 n1 c1) := (hb1.cell (p := ⟨w.heap.size, 0, none⟩) (by simp; omega)).trans (by go_simp)
      have p1 : w1.cell? ⟨w.heap.size, 1, none⟩ = some (.slice a2 n2 c2) := (hb1.cell (p := ⟨w.heap.size, 1, none⟩) (by simp; omega)).trans (by go_simp)
      have p2 : w1.cell? ⟨w.heap.size + 1, 0, none⟩ = some (.slice b1 k1 d1) := (hb1.cell (p := ⟨w.heap.size + 1, 0, none⟩) (by simp)).trans (by go_simp)
      have p3 : w1.cell? ⟨w.heap.size + 1, 1, none⟩ = some (.slice b2 k2 d2) := (hb1.cell (p := ⟨w.heap.size + 1, 1, none⟩) (by simp)).trans (by go_simp)
      have l1 := lt_cell p0
      have m1 := lt_cell p2
      have HB1 : Hid (Below w.heap.size w w1) := bl2 (ba (ba (Below.refl _ _))) hb1
      clear hb1
      go_wp2_with fail
      refine (HS1.out _ HB1.out).mono ?_
      rintro e w2 ⟨rfl, hb2⟩
      have q0 : w2.cell? ⟨w.heap.size, 0, none⟩ = some (.slice a1 n1 c1) := (hb2.cell (p := ⟨w.heap.size, 0, none⟩) l1).trans p0
      have q1 : w2.cell? ⟨w.heap.size, 1, none⟩ = some (.slice a2 n2 c2) := (hb2.cell (p := ⟨w.heap.size, 1, none⟩) l1).trans p1
      have q2 : w2.cell? ⟨w.heap.size + 1, 0, none⟩ = some (.slice b1 k1 d1) := (hb2.cell (p := ⟨w.heap.size + 1, 0, none⟩) m1).trans p2
      have q3 : w2.cell? ⟨w.heap.size + 1, 1, none⟩ = some (.slice b2 k2 d2) := (hb2.cell (p := ⟨w.heap.size + 1, 1, none⟩) m1).trans p3
      have l2 := lt_cell q0
      have m2 := lt_cell q2
      have HB2 : Hid (Below w.heap.size w w2) := bl2 HB1.out hb2
      clear hb2 p0 p1 p2 p3 l1 m1 HB1
      have p0 := q0
      have p1 := q1
      have p2 := q2
      have p3 := q3
      clear q0 q1 q2 q3
      go_wp2_with fail
      refine (HS2.out _ HB2.out).mono ?_
      rintro e w3 ⟨rfl, hb3⟩
      go_wp2_with fail
      go_ret
      exact ⟨rfl, bl2 HB2.out hb3⟩
    | true =>
      obtain ⟨T2, e2, hq2, hr2, hc2, hw2⟩ := HT2.out rfl
      have HW2 := Hid.intro hw2
      have HC2 := Hid.intro (And.intro hq2 hr2)
      clear hw2 hq2 hr2 HT2
      rcases hc1 with rfl | rfl
      case inr =>
        go_enter Tryz.func7, Tryz.ntmps7
        go_wp2_with fail
        refine (HA.out _ (ba (ba (Below.refl _ _)))).mono ?_
        rintro e w1 ⟨rfl, hb1⟩
        have p0 : w1.cell? ⟨w.heap.size, 0, none⟩ = some (.slice a1 n1 c1) := (hb1.cell (p := ⟨w.heap.size, 0, none⟩) (by simp; omega)).trans (by go_simp)
        have p1 : w1.cell? ⟨w.heap.size, 1, none⟩ = some (.slice a2 n2 c2) := (hb1.cell (p := ⟨w.heap.size, 1, none⟩) (by simp; omega)).trans (by go_simp)
        have p2 : w1.cell? ⟨w.heap.size + 1, 0, none⟩ = some (.slice b1 k1 d1) := (hb1.cell (p := ⟨w.heap.size + 1, 0, none⟩) (by simp)).trans (by go_simp)
        have p3 : w1.cell? ⟨w.heap.size + 1, 1, none⟩ = some (.slice b2 k2 d2) := (hb1.cell (p := ⟨w.heap.size + 1, 1, none⟩) (by simp)).trans (by go_simp)
        have l1 := lt_cell p0
        have m1 := lt_cell p2
        have HB1 : Hid (Below w.heap.size w w1) := bl2 (ba (ba (Below.refl _ _))) hb1
        clear hb1
        go_wp2_with fail
        refine (HS1.out _ HB1.out).mono ?_
        rintro e w2 ⟨rfl, hb2⟩
        have q0 : w2.cell? ⟨w.heap.size, 0, none⟩ = some (.slice a1 n1 c1) := (hb2.cell (p := ⟨w.heap.size, 0, none⟩) l1).trans p0
        have q1 : w2.cell? ⟨w.heap.size, 1, none⟩ = some (.slice a2 n2 c2) := (hb2.cell (p := ⟨w.heap.size, 1, none⟩) l1).trans p1
        have q2 : w2.cell? ⟨w.heap.size + 1, 0, none⟩ = some (.slice b1 k1 d1) := (hb2.cell (p := ⟨w.heap.size + 1, 0, none⟩) m1).trans p2
        have q3 : w2.cell? ⟨w.heap.size + 1, 1, none⟩ = some (.slice b2 k2 d2) := (hb2.cell (p := ⟨w.heap.size + 1, 1, none⟩) m1).trans p3
        have l2 := lt_cell q0
        have m2 := lt_cell q2
        have HB2 : Hid (Below w.heap.size w w2) := bl2 HB1.out hb2
        clear hb2 p0 p1 p2 p3 l1 m1 HB1
        have p0 := q0
        have p1 := q1
        have p2 := q2
        have p3 := q3
        clear q0 q1 q2 q3
        go_wp2_with fail
        refine (HS2.out _ HB2.out).mono ?_
        rintro e w3 ⟨rfl, hb3⟩
        have q0 : w3.cell? ⟨w.heap.size, 0, none⟩ = some (.slice a1 n1 c1) := (hb3.cell (p := ⟨w.heap.size, 0, none⟩) l2).trans p0
        have q1 : w3.cell? ⟨w.heap.size, 1, none⟩ = some (.slice a2 n2 c2) := (hb3.cell (p := ⟨w.heap.size, 1, none⟩) l2).trans p1
        have q2 : w3.cell? ⟨w.heap.size + 1, 0, none⟩ = some (.slice b1 k1 d1) := (hb3.cell (p := ⟨w.heap.size + 1, 0, none⟩) m2).trans p2
        have q3 : w3.cell? ⟨w.heap.size + 1, 1, none⟩ = some (.slice b2 k2 d2) := (hb3.cell (p := ⟨w.heap.size + 1, 1, none⟩) m2).trans p3
        have l3 := lt_cell q0
        have m3 := lt_cell q2
        have HB3 : Hid (Below w.heap.size w w3) := bl2 HB2.out hb3
        clear hb3 p0 p1 p2 p3 l2 m2 HB2
        have p0 := q0
        have p1 := q1
        have p2 := q2
        have p3 := q3
        clear q0 q1 q2 q3
        go_wp2_with fail
        refine (HW1.out _ HB3.out).mono ?_
        rintro e w4 ⟨rfl, hb4⟩
        have q0 : w4.cell? ⟨w.heap.size, 0, none⟩ = some (.slice a1 n1 c1) := (hb4.cell (p := ⟨w.heap.size, 0, none⟩) l3).trans p0
        have q1 : w4.cell? ⟨w.heap.size, 1, none⟩ = some (.slice a2 n2 c2) := (hb4.cell (p := ⟨w.heap.size, 1, none⟩) l3).trans p1
        have q2 : w4.cell? ⟨w.heap.size + 1, 0, none⟩ = some (.slice b1 k1 d1) := (hb4.cell (p := ⟨w.heap.size + 1, 0, none⟩) m3).trans p2
        have q3 : w4.cell? ⟨w.heap.size + 1, 1, none⟩ = some (.slice b2 k2 d2) := (hb4.cell (p := ⟨w.heap.size + 1, 1, none⟩) m3).trans p3
        have l4 := lt_cell q0
        have m4 := lt_cell q2
        have HB4 : Hid (Below w.heap.size w w4) := bl2 HB3.out hb4
        clear hb4 p0 p1 p2 p3 l3 m3 HB3
        have p0 := q0
        have p1 := q1
        have p2 := q2
        have p3 := q3
        clear q0 q1 q2 q3
        go_wp2_with fail
        refine (HW2.out _ HB4.out).mono ?_
        rintro e w5 ⟨rfl, hb5⟩
        have q0 : w5.cell? ⟨w.heap.size, 0, none⟩ = some (.slice a1 n1 c1) := (hb5.cell (p := ⟨w.heap.size, 0, none⟩) l4).trans p0
        have q1 : w5.cell? ⟨w.heap.size, 1, none⟩ = some (.slice a2 n2 c2) := (hb5.cell (p := ⟨w.heap.size, 1, none⟩) l4).trans p1
        have q2 : w5.cell? ⟨w.heap.size + 1, 0, none⟩ = some (.slice b1 k1 d1) := (hb5.cell (p := ⟨w.heap.size + 1, 0, none⟩) m4).trans p2
        have q3 : w5.cell? ⟨w.heap.size + 1, 1, none⟩ = some (.slice b2 k2 d2) := (hb5.cell (p := ⟨w.heap.size + 1, 1, none⟩) m4).trans p3
        have l5 := lt_cell q0
        have m5 := lt_cell q2
        have HB5 : Hid (Below w.heap.size w w5) := bl2 HB4.out hb5
        clear hb5 p0 p1 p2 p3 l4 m4 HB4
        have p0 := q0
        have p1 := q1
        have p2 := q2
        have p3 := q3
        clear q0 q1 q2 q3
        go_wp2_with fail
        go_ret
        exact ⟨rfl, HB5.out⟩
      rcases hc2 with rfl | rfl
      case inr =>
        go_enter Tryz.func7, Tryz.ntmps7
        go_wp2_with fail
        refine (HA.out _ (ba (ba (Below.refl _ _)))).mono ?_
        rintro e w1 ⟨rfl, hb1⟩
        have p0 : w1.cell? ⟨w.heap.size, 0, none⟩ = some (.slice a1 n1 c1) := (hb1.cell (p := ⟨w.heap.size, 0, none⟩) (by simp; omega)).trans (by go_simp)
        have p1 : w1.cell? ⟨w.heap.size, 1, none⟩ = some (.slice a2 n2 c2) := (hb1.cell (p := ⟨w.heap.size, 1, none⟩) (by simp; omega)).trans (by go_simp)
        have p2 : w1.cell? ⟨w.heap.size + 1, 0, none⟩ = some (.slice b1 k1 d1) := (hb1.cell (p := ⟨w.heap.size + 1, 0, none⟩) (by simp)).trans (by go_simp)
        have p3 : w1.cell? ⟨w.heap.size + 1, 1, none⟩ = some (.slice b2 k2 d2) := (hb1.cell (p := ⟨w.heap.size + 1, 1, none⟩) (by simp)).trans (by go_simp)
        have l1 := lt_cell p0
        have m1 := lt_cell p2
        have HB1 : Hid (Below w.heap.size w w1) := bl2 (ba (ba (Below.refl _ _))) hb1
        clear hb1
        go_wp2_with fail
        refine (HS1.out _ HB1.out).mono ?_
        rintro e w2 ⟨rfl, hb2⟩
        have q0 : w2.cell? ⟨w.heap.size, 0, none⟩ = some (.slice a1 n1 c1) := (hb2.cell (p := ⟨w.heap.size, 0, none⟩) l1).trans p0
        have q1 : w2.cell? ⟨w.heap.size, 1, none⟩ = some (.slice a2 n2 c2) := (hb2.cell (p := ⟨w.heap.size, 1, none⟩) l1).trans p1
        have q2 : w2.cell? ⟨w.heap.size + 1, 0, none⟩ = some (.slice b1 k1 d1) := (hb2.cell (p := ⟨w.heap.size + 1, 0, none⟩) m1).trans p2
        have q3 : w2.cell? ⟨w.heap.size + 1, 1, none⟩ = some (.slice b2 k2 d2) := (hb2.cell (p := ⟨w.heap.size + 1, 1, none⟩) m1).trans p3
        have l2 := lt_cell q0
        have m2 := lt_cell q2
        have HB2 : Hid (Below w.heap.size w w2) := bl2 HB1.out hb2
        clear hb2 p0 p1 p2 p3 l1 m1 HB1
        have p0 := q0
        have p1 := q1
        have p2 := q2
        have p3 := q3
        clear q0 q1 q2 q3
        go_wp2_with fail
        refine (HS2.out _ HB2.out).mono ?_
        rintro e w3 ⟨rfl, hb3⟩
        have q0 : w3.cell? ⟨w.heap.size, 0, none⟩ = some (.slice a1 n1 c1) := (hb3.cell (p := ⟨w.heap.size, 0, none⟩) l2).trans p0
        have q1 : w3.cell? ⟨w.heap.size, 1, none⟩ = some (.slice a2 n2 c2) := (hb3.cell (p := ⟨w.heap.size, 1, none⟩) l2).trans p1
        have q2 : w3.cell? ⟨w.heap.size + 1, 0, none⟩ = some (.slice b1 k1 d1) := (hb3.cell (p := ⟨w.heap.size + 1, 0, none⟩) m2).trans p2
        have q3 : w3.cell? ⟨w.heap.size + 1, 1, none⟩ = some (.slice b2 k2 d2) := (hb3.cell (p := ⟨w.heap.size + 1, 1, none⟩) m2).trans p3
        have l3 := lt_cell q0
        have m3 := lt_cell q2
        have HB3 : Hid (Below w.heap.size w w3) := bl2 HB2.out hb3
        clear hb3 p0 p1 p2 p3 l2 m2 HB2
        have p0 := q0
        have p1 := q1
        have p2 := q2
        have p3 := q3
        clear q0 q1 q2 q3
        go_wp2_with fail
        refine (HW1.out _ HB3.out).mono ?_
        rintro e w4 ⟨rfl, hb4⟩
        have q0 : w4.cell? ⟨w.heap.size, 0, none⟩ = some (.slice a1 n1 c1) := (hb4.cell (p := ⟨w.heap.size, 0, none⟩) l3).trans p0
        have q1 : w4.cell? ⟨w.heap.size, 1, none⟩ = some (.slice a2 n2 c2) := (hb4.cell (p := ⟨w.heap.size, 1, none⟩) l3).trans p1
        have q2 : w4.cell? ⟨w.heap.size + 1, 0, none⟩ = some (.slice b1 k1 d1) := (hb4.cell (p := ⟨w.heap.size + 1, 0, none⟩) m3).trans p2
        have q3 : w4.cell? ⟨w.heap.size + 1, 1, none⟩ = some (.slice b2 k2 d2) := (hb4.cell (p := ⟨w.heap.size + 1, 1, none⟩) m3).trans p3
        have l4 := lt_cell q0
        have m4 := lt_cell q2
        have HB4 : Hid (Below w.heap.size w w4) := bl2 HB3.out hb4
        clear hb4 p0 p1 p2 p3 l3 m3 HB3
        have p0 := q0
        have p1 := q1
        have p2 := q2
        have p3 := q3
        clear q0 q1 q2 q3
        go_wp2_with fail
        refine (HW2.out _ HB4.out).mono ?_
        rintro e w5 ⟨rfl, hb5⟩
        have q0 : w5.cell? ⟨w.heap.size, 0, none⟩ = some (.slice a1 n1 c1) := (hb5.cell (p := ⟨w.heap.size, 0, none⟩) l4).trans p0
        have q1 : w5.cell? ⟨w.heap.size, 1, none⟩ = some (.slice a2 n2 c2) := (hb5.cell (p := ⟨w.heap.size, 1, none⟩) l4).trans p1
        have q2 : w5.cell? ⟨w.heap.size + 1, 0, none⟩ = some (.slice b1 k1 d1) := (hb5.cell (p := ⟨w.heap.size + 1, 0, none⟩) m4).trans p2
        have q3 : w5.cell? ⟨w.heap.size + 1, 1, none⟩ = some (.slice b2 k2 d2) := (hb5.cell (p := ⟨w.heap.size + 1, 1, none⟩) m4).trans p3
        have l5 := lt_cell q0
        have m5 := lt_cell q2
        have HB5 : Hid (Below w.heap.size w w5) := bl2 HB4.out hb5
        clear hb5 p0 p1 p2 p3 l4 m4 HB4
        have p0 := q0
        have p1 := q1
        have p2 := q2
        have p3 := q3
        clear q0 q1 q2 q3
        go_wp2_with fail
        go_ret
        exact ⟨rfl, HB5.out⟩
      have F1 := HC1.out.1.1 rfl
      have F2 := HC2.out.1.1 rfl
      have ET : T1 = T2 ↔ SameP ds fs es gs := by rw [HC1.out.2 F1, HC2.out.2 F2]; exact HTS.out F1 F2
      have EB : Hid (yy = decide (T1 = T2)) := by show _ = _; rw [HYY.out, Bool.eq_iff_iff, yes_iff, decide_eq_true_iff]; exact ET.symm
      clear F1 F2 ET HC1 HC2 HTS HYY
      go_enter Tryz.func7, Tryz.ntmps7
      go_wp2_with fail
      refine (HA.out _ (ba (ba (Below.refl _ _)))).mono ?_
      rintro e w1 ⟨rfl, hb1⟩
      have p0 : w1.cell? ⟨w.heap.size, 0, none⟩ = some (.slice a1 n1 c1) := (hb1.cell (p := ⟨w.heap.size, 0, none⟩) (by simp; omega)).trans (by go_simp)
      have p1 : w1.cell? ⟨w.heap.size, 1, none⟩ = some (.slice a2 n2 c2) := (hb1.cell (p := ⟨w.heap.size, 1, none⟩) (by simp; omega)).trans (by go_simp)
      have p2 : w1.cell? ⟨w.heap.size + 1, 0, none⟩ = some (.slice b1 k1 d1) := (hb1.cell (p := ⟨w.heap.size + 1, 0, none⟩) (by simp)).trans (by go_simp)
      have p3 : w1.cell? ⟨w.heap.size + 1, 1, none⟩ = some (.slice b2 k2 d2) := (hb1.cell (p := ⟨w.heap.size + 1, 1, none⟩) (by simp)).trans (by go_simp)
      have l1 := lt_cell p0
      have m1 := lt_cell p2
      have HB1 : Hid (Below w.heap.size w w1) := bl2 (ba (ba (Below.refl _ _))) hb1
      clear hb1
      go_wp2_with fail
      refine (HS1.out _ HB1.out).mono ?_
      rintro e w2 ⟨rfl, hb2⟩
      have q0 : w2.cell? ⟨w.heap.size, 0, none⟩ = some (.slice a1 n1 c1) := (hb2.cell (p := ⟨w.heap.size, 0, none⟩) l1).trans p0
      have q1 : w2.cell? ⟨w.heap.size, 1, none⟩ = some (.slice a2 n2 c2) := (hb2.cell (p := ⟨w.heap.size, 1, none⟩) l1).trans p1
      have q2 : w2.cell? ⟨w.heap.size + 1, 0, none⟩ = some (.slice b1 k1 d1) := (hb2.cell (p := ⟨w.heap.size + 1, 0, none⟩) m1).trans p2
      have q3 : w2.cell? ⟨w.heap.size + 1, 1, none⟩ = some (.slice b2 k2 d2) := (hb2.cell (p := ⟨w.heap.size + 1, 1, none⟩) m1).trans p3
      have l2 := lt_cell q0
      have m2 := lt_cell q2
      have HB2 : Hid (Below w.heap.size w w2) := bl2 HB1.out hb2
      clear hb2 p0 p1 p2 p3 l1 m1 HB1
      have p0 := q0
      have p1 := q1
      have p2 := q2
      have p3 := q3
      clear q0 q1 q2 q3
      go_wp2_with fail
      refine (HS2.out _ HB2.out).mono ?_
      rintro e w3 ⟨rfl, hb3⟩
      have q0 : w3.cell? ⟨w.heap.size, 0, none⟩ = some (.slice a1 n1 c1) := (hb3.cell (p := ⟨w.heap.size, 0, none⟩) l2).trans p0
      have q1 : w3.cell? ⟨w.heap.size, 1, none⟩ = some (.slice a2 n2 c2) := (hb3.cell (p := ⟨w.heap.size, 1, none⟩) l2).trans p1
      have q2 : w3.cell? ⟨w.heap.size + 1, 0, none⟩ = some (.slice b1 k1 d1) := (hb3.cell (p := ⟨w.heap.size + 1, 0, none⟩) m2).trans p2
      have q3 : w3.cell? ⟨w.heap.size + 1, 1, none⟩ = some (.slice b2 k2 d2) := (hb3.cell (p := ⟨w.heap.size + 1, 1, none⟩) m2).trans p3
      have l3 := lt_cell q0
      have m3 := lt_cell q2
      have HB3 : Hid (Below w.heap.size w w3) := bl2 HB2.out hb3
      clear hb3 p0 p1 p2 p3 l2 m2 HB2
      have p0 := q0
      have p1 := q1
      have p2 := q2
      have p3 := q3
      clear q0 q1 q2 q3
      go_wp2_with fail
      refine (HW1.out _ HB3.out).mono ?_
      rintro e w4 ⟨rfl, hb4⟩
      have q0 : w4.cell? ⟨w.heap.size, 0, none⟩ = some (.slice a1 n1 c1) := (hb4.cell (p := ⟨w.heap.size, 0, none⟩) l3).trans p0
      have q1 : w4.cell? ⟨w.heap.size, 1, none⟩ = some (.slice a2 n2 c2) := (hb4.cell (p := ⟨w.heap.size, 1, none⟩) l3).trans p1
      have q2 : w4.cell? ⟨w.heap.size + 1, 0, none⟩ = some (.slice b1 k1 d1) := (hb4.cell (p := ⟨w.heap.size + 1, 0, none⟩) m3).trans p2
      have q3 : w4.cell? ⟨w.heap.size + 1, 1, none⟩ = some (.slice b2 k2 d2) := (hb4.cell (p := ⟨w.heap.size + 1, 1, none⟩) m3).trans p3
      have l4 := lt_cell q0
      have m4 := lt_cell q2
      have HB4 : Hid (Below w.heap.size w w4) := bl2 HB3.out hb4
      clear hb4 p0 p1 p2 p3 l3 m3 HB3
      have p0 := q0
      have p1 := q1
      have p2 := q2
      have p3 := q3
      clear q0 q1 q2 q3
      go_wp2_with fail
      refine (HW2.out _ HB4.out).mono ?_
      rintro e w5 ⟨rfl, hb5⟩
      have q0 : w5.cell? ⟨w.heap.size, 0, none⟩ = some (.slice a1 n1 c1) := (hb5.cell (p := ⟨w.heap.size, 0, none⟩) l4).trans p0
      have q1 : w5.cell? ⟨w.heap.size, 1, none⟩ = some (.slice a2 n2 c2) := (hb5.cell (p := ⟨w.heap.size, 1, none⟩) l4).trans p1
      have q2 : w5.cell? ⟨w.heap.size + 1, 0, none⟩ = some (.slice b1 k1 d1) := (hb5.cell (p := ⟨w.heap.size + 1, 0, none⟩) m4).trans p2
      have q3 : w5.cell? ⟨w.heap.size + 1, 1, none⟩ = some (.slice b2 k2 d2) := (hb5.cell (p := ⟨w.heap.size + 1, 1, none⟩) m4).trans p3
      have l5 := lt_cell q0
      have m5 := lt_cell q2
      have HB5 : Hid (Below w.heap.size w w5) := bl2 HB4.out hb5
      clear hb5 p0 p1 p2 p3 l4 m4 HB4
      have p0 := q0
      have p1 := q1
      have p2 := q2
      have p3 := q3
      clear q0 q1 q2 q3
      go_wp2_with fail
      refine (HQ.out _ HB5.out).mono ?_
      rintro e w6 ⟨rfl, hb6⟩
      go_wp2_with fail
      go_ret
      refine ⟨ret_bool ?_, bl2 HB5.out hb6⟩
      rw [EB.out]
      simp
      rw [Bool.eq_iff_iff, beq_iff_eq, decide_eq_true_iff]
end Go.Proofs.YtkljakeccfnakaaGreatDoor
