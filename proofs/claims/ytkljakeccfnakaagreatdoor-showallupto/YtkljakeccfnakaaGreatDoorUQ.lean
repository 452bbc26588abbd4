/-
  The walk of ShowAll.
-/
import Derived.Test.YtkljakeccfnakaaGreatDoorUP
namespace Go.Proofs.YtkljakeccfnakaaGreatDoor
open Go.RowKit

theorem LawK.ref {hi : Nat} {w : World} {v : Value} {ds : List Dl} {es : List Px} (h : LawK hi w v ds es) (hs : smallP ds es = true) {W : World} (hW : Below w.heap.size w W) : Calls Tryz.prog 12 #[v] W fun e w' => ShowR ds es e ∧ Below W.heap.size W w' :=
  refShow_any ds es v hi W (h.pv.keep (hW.mono h.hhi)) (Nat.le_trans h.hhi hW.size) hs
theorem LawK.form {hi : Nat} {w : World} {v : Value} {ds : List Dl} {es : List Px} (h : LawK hi w v ds es) {W : World} (hW : Below w.heap.size w W) : Calls Tryz.prog 13 #[v] W fun e w' => e = .returned (.bool (progB ds es)) ∧ Below W.heap.size W w' :=
  formedP_any ds es v hi W (h.pv.keep (hW.mono h.hhi)) (Nat.le_trans h.hhi hW.size)
set_option maxHeartbeats 8000000 in
theorem all_walk (ds : List Dl) (es : List Px) (a1 a2 : Option Addr) (n1 c1 n2 c2 hi : Nat) (w : World) (K : Hid (LawK hi w (.agg #[.slice a1 n1 c1, .slice a2 n2 c2]) ds es)) :
    Calls Tryz.prog 3 #[.agg #[.slice a1 n1 c1, .slice a2 n2 c2]] w fun e w' => e = .returned (.bool true) ∧ Below w.heap.size w w' := by
  have HA : Hid (∀ W, Below w.heap.size w W → Calls Tryz.prog 9 #[] W fun e w' => e = .returned (.bool true) ∧ Below W.heap.size W w') := fun W hW => K.out.awake hW
  cases hs : smallP ds es with
  | false =>
    have HS : Hid (∀ W, Below w.heap.size w W → Calls Tryz.prog 10 #[.agg #[.slice a1 n1 c1, .slice a2 n2 c2]] W fun e w' => e = .returned (.bool false) ∧ Below W.heap.size W w') := fun W hW => by
      have := K.out.small hW; rw [hs] at this; exact this
    go_enter Tryz.func3, Tryz.ntmps3
    go_wp2_with fail
    refine (HA.out _ (ba (Below.refl _ _))).mono ?_
    rintro e w1 ⟨rfl, hb1⟩
    have p0 : w1.cell? ⟨w.heap.size, 0, none⟩ = some (.slice a1 n1 c1) := (hb1.cell (p := ⟨w.heap.size, 0, none⟩) (by simp)).trans (by go_simp)
    have p1 : w1.cell? ⟨w.heap.size, 1, none⟩ = some (.slice a2 n2 c2) := (hb1.cell (p := ⟨w.heap.size, 1, none⟩) (by simp)).trans (by go_simp)
    have lp := lt_cell p0
    have HB1 : Hid (Below w.heap.size w w1) := bl2 (ba (Below.refl _ _)) hb1
    clear hb1
    go_wp2_with fail
    refine (HS.out _ HB1.out).mono ?_
    rintro e w2 ⟨rfl, hb2⟩
    go_wp2_with fail
    go_ret
    exact ⟨rfl, bl2 HB1.out hb2⟩
  | true =>
    have HS : Hid (∀ W, Below w.heap.size w W → Calls Tryz.prog 10 #[.agg #[.slice a1 n1 c1, .slice a2 n2 c2]] W fun e w' => e = .returned (.bool true) ∧ Below W.heap.size W w') := fun W hW => by
      have := K.out.small hW; rw [hs] at this; exact this
    cases hp : progB ds es with
    | false =>
      have HW : Hid (∀ W, Below w.heap.size w W → Calls Tryz.prog 11 #[.agg #[.slice a1 n1 c1, .slice a2 n2 c2]] W fun e w' => e = .returned (.tuple #[.string ⟨#[]⟩, .int .i64 3]) ∧ Below W.heap.size W w') := fun W hW => by
        have := K.out.show hs hW; rw [hp] at this; exact this
      have HR : Hid (∀ W, Below w.heap.size w W → Calls Tryz.prog 12 #[.agg #[.slice a1 n1 c1, .slice a2 n2 c2]] W fun e w' => e = .returned (.tuple #[.string ⟨#[]⟩, .int .i64 3]) ∧ Below W.heap.size W w') := fun W hW => by
        have := K.out.ref hs hW; unfold ShowR at this; rw [hp] at this; exact this
      have HF : Hid (∀ W, Below w.heap.size w W → Calls Tryz.prog 13 #[.agg #[.slice a1 n1 c1, .slice a2 n2 c2]] W fun e w' => e = .returned (.bool false) ∧ Below W.heap.size W w') := fun W hW => by
        have := K.out.form hW; rw [hp] at this; exact this
      clear hs hp
      skip
      go_enter Tryz.func3, Tryz.ntmps3
      go_wp2_with fail
      refine (HA.out _ (ba (Below.refl _ _))).mono ?_
      rintro e w1 ⟨rfl, hb1⟩
      have p0 : w1.cell? ⟨w.heap.size, 0, none⟩ = some (.slice a1 n1 c1) := (hb1.cell (p := ⟨w.heap.size, 0, none⟩) (by simp)).trans (by go_simp)
      have p1 : w1.cell? ⟨w.heap.size, 1, none⟩ = some (.slice a2 n2 c2) := (hb1.cell (p := ⟨w.heap.size, 1, none⟩) (by simp)).trans (by go_simp)
      have lp := lt_cell p0
      have HB1 : Hid (Below w.heap.size w w1) := bl2 (ba (Below.refl _ _)) hb1
      clear hb1
      go_wp2_with fail
      refine (HS.out _ HB1.out).mono ?_
      rintro e w2 ⟨rfl, hb2⟩
      have c20 : w2.cell? ⟨w.heap.size, 0, none⟩ = some (.slice a1 n1 c1) := (hb2.cell (p := ⟨w.heap.size, 0, none⟩) lp).trans p0
      have c21 : w2.cell? ⟨w.heap.size, 1, none⟩ = some (.slice a2 n2 c2) := (hb2.cell (p := ⟨w.heap.size, 1, none⟩) lp).trans p1
      have lp2 := lt_cell c20
      have HB2 : Hid (Below w.heap.size w w2) := bl2 HB1.out hb2
      clear hb2 p0 p1 lp HB1
      go_wp2_with fail
      refine (HW.out _ HB2.out).mono ?_
      rintro e w3 ⟨rfl, hb3⟩
      have c30 : w3.cell? ⟨w.heap.size, 0, none⟩ = some (.slice a1 n1 c1) := (hb3.cell (p := ⟨w.heap.size, 0, none⟩) lp2).trans c20
      have c31 : w3.cell? ⟨w.heap.size, 1, none⟩ = some (.slice a2 n2 c2) := (hb3.cell (p := ⟨w.heap.size, 1, none⟩) lp2).trans c21
      have lp3 := lt_cell c30
      have HB3 : Hid (Below w.heap.size w w3) := bl2 HB2.out hb3
      clear hb3 c20 c21 lp2 HB2
      go_wp2_with fail
      refine (HR.out _ HB3.out).mono ?_
      rintro e w4 ⟨rfl, hb4⟩
      have c40 : w4.cell? ⟨w.heap.size, 0, none⟩ = some (.slice a1 n1 c1) := (hb4.cell (p := ⟨w.heap.size, 0, none⟩) lp3).trans c30
      have c41 : w4.cell? ⟨w.heap.size, 1, none⟩ = some (.slice a2 n2 c2) := (hb4.cell (p := ⟨w.heap.size, 1, none⟩) lp3).trans c31
      have lp4 := lt_cell c40
      have HB4 : Hid (Below w.heap.size w w4) := bl2 HB3.out hb4
      clear hb4 c30 c31 lp3 HB3
      go_wp2_with (go_at_call 13; refine (HF.out _ HB4.out).mono ?_; rintro e w5 ⟨rfl, hb5⟩)
      go_ret
      exact ⟨ret_bool (by simp), bl2 HB4.out hb5⟩
    | true =>
      have HW : Hid (∀ W, Below w.heap.size w W → Calls Tryz.prog 11 #[.agg #[.slice a1 n1 c1, .slice a2 n2 c2]] W fun e w' => e = .returned (.tuple #[.string ⟨(shwP ds es).toArray⟩, .int .i64 0]) ∧ Below W.heap.size W w') := fun W hW => by
        have := K.out.show hs hW; rw [hp] at this; exact this
      have HR : Hid (∀ W, Below w.heap.size w W → Calls Tryz.prog 12 #[.agg #[.slice a1 n1 c1, .slice a2 n2 c2]] W fun e w' => e = .returned (.tuple #[.string ⟨(shwP ds es).toArray⟩, .int .i64 0]) ∧ Below W.heap.size W w') := fun W hW => by
        have := K.out.ref hs hW; unfold ShowR at this; rw [hp] at this; exact this
      have HF : Hid (∀ W, Below w.heap.size w W → Calls Tryz.prog 13 #[.agg #[.slice a1 n1 c1, .slice a2 n2 c2]] W fun e w' => e = .returned (.bool true) ∧ Below W.heap.size W w') := fun W hW => by
        have := K.out.form hW; rw [hp] at this; exact this
      clear hs hp
      generalize shwP ds es = T at *
      go_enter Tryz.func3, Tryz.ntmps3
      go_wp2_with fail
      refine (HA.out _ (ba (Below.refl _ _))).mono ?_
      rintro e w1 ⟨rfl, hb1⟩
      have p0 : w1.cell? ⟨w.heap.size, 0, none⟩ = some (.slice a1 n1 c1) := (hb1.cell (p := ⟨w.heap.size, 0, none⟩) (by simp)).trans (by go_simp)
      have p1 : w1.cell? ⟨w.heap.size, 1, none⟩ = some (.slice a2 n2 c2) := (hb1.cell (p := ⟨w.heap.size, 1, none⟩) (by simp)).trans (by go_simp)
      have lp := lt_cell p0
      have HB1 : Hid (Below w.heap.size w w1) := bl2 (ba (Below.refl _ _)) hb1
      clear hb1
      go_wp2_with fail
      refine (HS.out _ HB1.out).mono ?_
      rintro e w2 ⟨rfl, hb2⟩
      have c20 : w2.cell? ⟨w.heap.size, 0, none⟩ = some (.slice a1 n1 c1) := (hb2.cell (p := ⟨w.heap.size, 0, none⟩) lp).trans p0
      have c21 : w2.cell? ⟨w.heap.size, 1, none⟩ = some (.slice a2 n2 c2) := (hb2.cell (p := ⟨w.heap.size, 1, none⟩) lp).trans p1
      have lp2 := lt_cell c20
      have HB2 : Hid (Below w.heap.size w w2) := bl2 HB1.out hb2
      clear hb2 p0 p1 lp HB1
      go_wp2_with fail
      refine (HW.out _ HB2.out).mono ?_
      rintro e w3 ⟨rfl, hb3⟩
      have c30 : w3.cell? ⟨w.heap.size, 0, none⟩ = some (.slice a1 n1 c1) := (hb3.cell (p := ⟨w.heap.size, 0, none⟩) lp2).trans c20
      have c31 : w3.cell? ⟨w.heap.size, 1, none⟩ = some (.slice a2 n2 c2) := (hb3.cell (p := ⟨w.heap.size, 1, none⟩) lp2).trans c21
      have lp3 := lt_cell c30
      have HB3 : Hid (Below w.heap.size w w3) := bl2 HB2.out hb3
      clear hb3 c20 c21 lp2 HB2
      go_wp2_with fail
      refine (HR.out _ HB3.out).mono ?_
      rintro e w4 ⟨rfl, hb4⟩
      have c40 : w4.cell? ⟨w.heap.size, 0, none⟩ = some (.slice a1 n1 c1) := (hb4.cell (p := ⟨w.heap.size, 0, none⟩) lp3).trans c30
      have c41 : w4.cell? ⟨w.heap.size, 1, none⟩ = some (.slice a2 n2 c2) := (hb4.cell (p := ⟨w.heap.size, 1, none⟩) lp3).trans c31
      have lp4 := lt_cell c40
      have HB4 : Hid (Below w.heap.size w w4) := bl2 HB3.out hb4
      clear hb4 c30 c31 lp3 HB3
      go_wp2_with (go_at_call 13; refine (HF.out _ HB4.out).mono ?_; rintro e w5 ⟨rfl, hb5⟩)
      go_ret
      exact ⟨ret_bool (by simp), bl2 HB4.out hb5⟩
/-- ShowAll, of what the laws are handed. -/
theorem showAll_any (ds : List Dl) (es : List Px) (v : Value) (hi : Nat) (w : World) (K : LawK hi w v ds es) : Calls Tryz.prog 3 #[v] w fun e w' => e = .returned (.bool true) ∧ Below w.heap.size w w' := by
  obtain ⟨a1, c1, a2, c2, e, hd, he⟩ := K.pv
  subst e
  exact all_walk ds es a1 a2 ds.length c1 es.length c2 hi w K
end Go.Proofs.YtkljakeccfnakaaGreatDoor
