/-
  The walk of ShowBack.
-/
import Derived.Test.YtkljakeccfnakaaGreatDoorWD
namespace Go.Proofs.YtkljakeccfnakaaGreatDoor
open Go.RowKit

/-- What a shown text is to Tokens and to Parse. -/
theorem tok_call (l : List UInt8) (W : World) (hl : l.length ≤ 140737488351232) : Calls Tryz.prog 14 #[.string ⟨l.toArray⟩] W fun e w' => (∃ v, e = .returned (.tuple #[v, .int .i64 (lexC (lexT l)), .int .i64 (lexP (lexT l))])) ∧ Below W.heap.size W w' :=
  (tokens_at lexC_holds ⟨l.toArray⟩ W (by rw [Lib.size_eq]; exact hl)).mono fun _ _ ⟨⟨v, he, _⟩, hb⟩ => ⟨⟨v, he⟩, hb⟩
theorem back_call {ds : List Dl} {es : List Px} (hp : progB ds es = true) (hl : (shwP ds es).length ≤ 140737488351232) (hn : lexC (lexT (shwP ds es)) ≠ 15) (W : World) : Calls Tryz.prog 15 #[.string ⟨(shwP ds es).toArray⟩] W fun e w' =>
    (∃ a1 n1 c1 a2 n2 c2 ds2 es2, e = .returned (.tuple #[.agg #[.slice a1 n1 c1, .slice a2 n2 c2], .int .i64 0, .int .i64 0]) ∧ PV w'.heap.size w' (.agg #[.slice a1 n1 c1, .slice a2 n2 c2]) ds2 es2 ∧ SameP ds ds2 es es2 ∧ progB ds2 es2 = true ∧ ∀ x ∈ es2, szX x ≤ 3000) ∧ Below W.heap.size W w' := by
  refine (parseP_any (shwP ds es) W hl).mono fun e w' ⟨h, hb⟩ => ⟨?_, hb⟩
  rcases h with ⟨a1, n1, c1, a2, n2, c2, d2, e2, he, _, _, hv, hr⟩ | ⟨c, p, he, hc, hno⟩
  · exact ⟨a1, n1, c1, a2, n2, c2, d2, e2, he, hv, back_same hp hr, hr.form, hr.sz⟩
  · obtain ⟨q, hq⟩ := back_reads hp hno
    rw [hq] at hn
    exact absurd rfl hn
set_option maxHeartbeats 16000000 in
theorem back_walk (ds : List Dl) (es : List Px) (a1 a2 : Option Addr) (n1 c1 n2 c2 hi : Nat) (w : World) (K : Hid (LawK hi w (.agg #[.slice a1 n1 c1, .slice a2 n2 c2]) ds es)) :
    Calls Tryz.prog 4 #[.agg #[.slice a1 n1 c1, .slice a2 n2 c2]] w fun e w' => e = .returned (.bool true) ∧ Below w.heap.size w w' := by
  have HA : Hid (∀ W, Below w.heap.size w W → Calls Tryz.prog 9 #[] W fun e w' => e = .returned (.bool true) ∧ Below W.heap.size W w') := fun W hW => K.out.awake hW
  cases hs : smallP ds es with
  | false =>
    have HS : Hid (∀ W, Below w.heap.size w W → Calls Tryz.prog 10 #[.agg #[.slice a1 n1 c1, .slice a2 n2 c2]] W fun e w' => e = .returned (.bool false) ∧ Below W.heap.size W w') := fun W hW => by
      have := K.out.small hW; rw [hs] at this; exact this
    go_enter Tryz.func4, Tryz.ntmps4
    go_wp2_with fail
    refine (HA.out _ (ba (Below.refl _ _))).mono ?_
    rintro e w1 ⟨rfl, hb1⟩
    have p0 : w1.cell? ⟨w.heap.size, 0, none⟩ = some (.slice a1 n1 c1) := (hb1.cell (p := ⟨w.heap.size, 0, none⟩) (by simp)).trans (by go_simp)
    have p1 : w1.cell? ⟨w.heap.size, 1, none⟩ = some (.slice a2 n2 c2) := (hb1.cell (p := ⟨w.heap.size, 1, none⟩) (by simp)).trans (by go_simp)
    have HB1 : Hid (Below w.heap.size w w1) := bl2 (ba (Below.refl _ _)) hb1
    clear hb1
    go_wp2_with fail
    refine (HS.out _ HB1.out).mono ?_
    rintro e w2 ⟨rfl, hb2⟩
    go_wp2_with fail
    go_ret
    exact ⟨rfl, bl2 HB1.out hb2⟩
  | true =>
    have HS : Hid (∀ W, Below w.heap.size w W → Calls Tryz.prog 10 #[.agg #[.slice a1 n1 c1, .slice a2 n2 c2]] W fun e w' => e = .returned (.bool true) ∧ Below W.heap.size W w') := fun W hW => by
      have := K.out.small hW; rw [hs] at this; exact this
    cases hp : progB ds es with
    | false =>
      have HW : Hid (∀ W, Below w.heap.size w W → Calls Tryz.prog 11 #[.agg #[.slice a1 n1 c1, .slice a2 n2 c2]] W fun e w' => e = .returned (.tuple #[.string ⟨#[]⟩, .int .i64 3]) ∧ Below W.heap.size W w') := fun W hW => by
        have := K.out.show hs hW; rw [hp] at this; exact this
      go_enter Tryz.func4, Tryz.ntmps4
      go_wp2_with fail
      refine (HA.out _ (ba (Below.refl _ _))).mono ?_
      rintro e w1 ⟨rfl, hb1⟩
      have p0 : w1.cell? ⟨w.heap.size, 0, none⟩ = some (.slice a1 n1 c1) := (hb1.cell (p := ⟨w.heap.size, 0, none⟩) (by simp)).trans (by go_simp)
      have p1 : w1.cell? ⟨w.heap.size, 1, none⟩ = some (.slice a2 n2 c2) := (hb1.cell (p := ⟨w.heap.size, 1, none⟩) (by simp)).trans (by go_simp)
      have lp := lt_cell p0
      have HB1 : Hid (Below w.heap.size w w1) := bl2 (ba (Below.refl _ _)) hb1
      clear hb1
      go_wp2_with fail
      refine (HS.out _ HB1.out).mono ?_
      rintro e w2 ⟨rfl, hb2⟩
      have q0 : w2.cell? ⟨w.heap.size, 0, none⟩ = some (.slice a1 n1 c1) := (hb2.cell (p := ⟨w.heap.size, 0, none⟩) lp).trans p0
      have q1 : w2.cell? ⟨w.heap.size, 1, none⟩ = some (.slice a2 n2 c2) := (hb2.cell (p := ⟨w.heap.size, 1, none⟩) lp).trans p1
      have lq := lt_cell q0
      have HB2 : Hid (Below w.heap.size w w2) := bl2 HB1.out hb2
      clear hb2 p0 p1 lp HB1
      go_wp2_with fail
      refine (HW.out _ HB2.out).mono ?_
      rintro e w3 ⟨rfl, hb3⟩
      go_wp2_with fail
      go_ret
      exact ⟨ret_bool (by simp), bl2 HB2.out hb3⟩
    | true =>
      have HPB := Hid.intro hp
      have HLN : Hid ((shwP ds es).length ≤ 140737488351232) := by have := shwP_len 2000 hp (small_sz hs); show _ ≤ _; omega
      have HW : Hid (∀ W, Below w.heap.size w W → Calls Tryz.prog 11 #[.agg #[.slice a1 n1 c1, .slice a2 n2 c2]] W fun e w' => e = .returned (.tuple #[.string ⟨(shwP ds es).toArray⟩, .int .i64 0]) ∧ Below W.heap.size W w') := fun W hW => by
        have := K.out.show hs hW; rw [hp] at this; exact this
      clear hs hp
      have HT : Hid (∀ W, Calls Tryz.prog 14 #[.string ⟨(shwP ds es).toArray⟩] W fun e w' => (∃ v, e = .returned (.tuple #[v, .int .i64 (lexC (lexT (shwP ds es))), .int .i64 (lexP (lexT (shwP ds es)))])) ∧ Below W.heap.size W w') := fun W => tok_call _ W HLN.out
      have HR : Hid (lexC (lexT (shwP ds es)) ≠ 15 → ∀ W, Calls Tryz.prog 15 #[.string ⟨(shwP ds es).toArray⟩] W fun e w' =>
        (∃ a1 n1 c1 a2 n2 c2 ds2 es2, e = .returned (.tuple #[.agg #[.slice a1 n1 c1, .slice a2 n2 c2], .int .i64 0, .int .i64 0]) ∧ PV w'.heap.size w' (.agg #[.slice a1 n1 c1, .slice a2 n2 c2]) ds2 es2 ∧ SameP ds ds2 es es2 ∧ progB ds2 es2 = true ∧ ∀ x ∈ es2, szX x ≤ 3000) ∧ Below W.heap.size W w') := fun hn W => back_call HPB.out HLN.out hn W
      generalize hT : shwP ds es = T at *
      clear hT HLN HPB
      generalize lexC (lexT T) = cc at *
      generalize lexP (lexT T) = pp at *
      go_enter Tryz.func4, Tryz.ntmps4
      go_wp2_with fail
      refine (HA.out _ (ba (Below.refl _ _))).mono ?_
      rintro e w1 ⟨rfl, hb1⟩
      have p0 : w1.cell? ⟨w.heap.size, 0, none⟩ = some (.slice a1 n1 c1) := (hb1.cell (p := ⟨w.heap.size, 0, none⟩) (by simp)).trans (by go_simp)
      have p1 : w1.cell? ⟨w.heap.size, 1, none⟩ = some (.slice a2 n2 c2) := (hb1.cell (p := ⟨w.heap.size, 1, none⟩) (by simp)).trans (by go_simp)
      have lp := lt_cell p0
      have HB1 : Hid (Below w.heap.size w w1) := bl2 (ba (Below.refl _ _)) hb1
      clear hb1
      go_wp2_with fail
      refine (HS.out _ HB1.out).mono ?_
      rintro e w2 ⟨rfl, hb2⟩
      have q0 : w2.cell? ⟨w.heap.size, 0, none⟩ = some (.slice a1 n1 c1) := (hb2.cell (p := ⟨w.heap.size, 0, none⟩) lp).trans p0
      have q1 : w2.cell? ⟨w.heap.size, 1, none⟩ = some (.slice a2 n2 c2) := (hb2.cell (p := ⟨w.heap.size, 1, none⟩) lp).trans p1
      have lq := lt_cell q0
      have HB2 : Hid (Below w.heap.size w w2) := bl2 HB1.out hb2
      clear hb2 p0 p1 lp HB1
      go_wp2_with fail
      refine (HW.out _ HB2.out).mono ?_
      rintro e w3 ⟨rfl, hb3⟩
      have r0 : w3.cell? ⟨w.heap.size, 0, none⟩ = some (.slice a1 n1 c1) := (hb3.cell (p := ⟨w.heap.size, 0, none⟩) lq).trans q0
      have r1 : w3.cell? ⟨w.heap.size, 1, none⟩ = some (.slice a2 n2 c2) := (hb3.cell (p := ⟨w.heap.size, 1, none⟩) lq).trans q1
      have lr := lt_cell r0
      have HB3 : Hid (Below w.heap.size w w3) := bl2 HB2.out hb3
      clear hb3 q0 q1 lq HB2
      go_wp2_with fail
      refine (HT.out _).mono ?_
      rintro e w4 ⟨⟨v4, rfl⟩, hb4⟩
      have s0 : w4.cell? ⟨w.heap.size, 0, none⟩ = some (.slice a1 n1 c1) := (hb4.cell (p := ⟨w.heap.size, 0, none⟩) lr).trans r0
      have s1 : w4.cell? ⟨w.heap.size, 1, none⟩ = some (.slice a2 n2 c2) := (hb4.cell (p := ⟨w.heap.size, 1, none⟩) lr).trans r1
      have ls := lt_cell s0
      have HB4 : Hid (Below w.heap.size w w4) := bl2 HB3.out hb4
      clear hb4 r0 r1 lr HB3
      by_cases h15 : cc = 15
      · subst h15
        go_wp2_with fail
        go_ret
        exact ⟨rfl, HB4.out⟩
      · have z15 : (cc == 15) = false := by rw [beq_eq_false_iff_ne]; exact h15
        have HR2 := Hid.intro (HR.out h15)
        clear h15 HR
        go_wp2_with fail
        refine (HR2.out _).mono ?_
        rintro e w5 ⟨⟨b1, k1, d1, b2, k2, d2, ds2, es2, rfl, hv, hsame, _, _⟩, hb5⟩
        have t0 : w5.cell? ⟨w.heap.size, 0, none⟩ = some (.slice a1 n1 c1) := (hb5.cell (p := ⟨w.heap.size, 0, none⟩) ls).trans s0
        have t1 : w5.cell? ⟨w.heap.size, 1, none⟩ = some (.slice a2 n2 c2) := (hb5.cell (p := ⟨w.heap.size, 1, none⟩) ls).trans s1
        have lt := lt_cell t0
        have HB5 : Hid (Below w.heap.size w w5) := bl2 HB4.out hb5
        have HQ : Hid (∀ W, Below w5.heap.size w5 W → Calls Tryz.prog 16 #[.agg #[.slice a1 n1 c1, .slice a2 n2 c2], .agg #[.slice b1 k1 d1, .slice b2 k2 d2], .bool false] W fun e w' => e = .returned (.bool true) ∧ Below W.heap.size W w') := fun W hW => by
          have hBW : Below w.heap.size w W := bl2 HB5.out hW
          have := sameP_any ds ds2 es es2 _ _ hi w5.heap.size W (K.out.pv.keep (hBW.mono K.out.hhi)) (hv.keep hW) (Nat.le_trans K.out.hhi hBW.size) hW.size
          rw [yes_t hsame] at this
          exact this
        clear hb5 s0 s1 ls HB4 hv hsame
        go_wp2_with fail
        refine (HQ.out _ (ba (Below.refl _ _))).mono ?_
        rintro e w6 ⟨rfl, hb6⟩
        go_wp2_with fail
        go_ret
        exact ⟨rfl, bl2 (bl2 HB5.out (ba (Below.refl _ _))) hb6⟩
end Go.Proofs.YtkljakeccfnakaaGreatDoor
