/-
  The walk of ShowRead.
-/
import Derived.Test.YtkljakeccfnakaaGreatDoorWE
namespace Go.Proofs.YtkljakeccfnakaaGreatDoor
open Go.RowKit

set_option maxHeartbeats 16000000 in
theorem read_walk (s : List UInt8) (hs : s.length ≤ 140737488351232) (w : World) (hw : Ok w.heap.size w) :
    Calls Tryz.prog 5 #[.string ⟨s.toArray⟩] w fun e w' => e = .returned (.bool true) ∧ Below w.heap.size w w' := by
  have HO := Hid.intro hw
  have HA : Hid (Calls Tryz.prog 9 #[] w fun e w' => e = .returned (.bool true) ∧ Below w.heap.size w w') := awake_any w hw
  have HP := Hid.intro fun W : World => parseP_any s W hs
  clear hs hw
  go_enter Tryz.func5, Tryz.ntmps5
  go_wp2_with fail
  refine (HA.out).mono ?_
  rintro e w1 ⟨rfl, hb1⟩
  have HB1 := Hid.intro hb1
  clear hb1 HA
  go_wp2_with fail
  refine (HP.out _).mono ?_
  rintro e w2 ⟨h, hb2⟩
  have HB2 : Hid (Below w.heap.size w w2) := bl2 HB1.out hb2
  clear hb2 HB1 HP
  rcases h with ⟨a1, n1, c1, a2, n2, c2, ds, es, rfl, -, -, hv, hr⟩ | ⟨c, p, rfl, hc, -⟩
  case inr =>
    have z : ((c : Int) != 0) = true := by rw [bne_iff_ne]; omega
    clear hc
    go_wp2_with fail
    go_ret
    exact ⟨rfl, ba HB2.out⟩
  have HPB := Hid.intro hr.form
  have HLN : Hid ((shwP ds es).length ≤ 140737488351232) := by have := shwP_len 3000 hr.form hr.sz; show _ ≤ _; omega
  have HOK : Hid (∀ W, Below w2.heap.size w2 W → Ok W.heap.size W) := fun W hW => by
    have hBW := bl2 HB2.out hW
    exact (HO.out.keep hBW).up hBW.size
  have HV := Hid.intro hv
  have HW : Hid (∀ W, Below w2.heap.size w2 W → Calls Tryz.prog 11 #[.agg #[.slice a1 n1 c1, .slice a2 n2 c2]] W fun e w' => e = .returned (.tuple #[.string ⟨(shwP ds es).toArray⟩, .int .i64 0]) ∧ Below W.heap.size W w') := fun W hW => by
    have := showP_any ds es _ w2.heap.size W (HV.out.keep hW) hW.size (HOK.out W hW) (fun _ => Nat.le_trans HLN.out (by omega))
    rw [HPB.out] at this; exact this
  have HF : Hid (∀ W, Below w2.heap.size w2 W → Calls Tryz.prog 13 #[.agg #[.slice a1 n1 c1, .slice a2 n2 c2]] W fun e w' => e = .returned (.bool true) ∧ Below W.heap.size W w') := fun W hW => by
    have := formedP_any ds es _ w2.heap.size W (HV.out.keep hW) hW.size
    rw [HPB.out] at this; exact this
  have HT : Hid (∀ W, Calls Tryz.prog 14 #[.string ⟨(shwP ds es).toArray⟩] W fun e w' => (∃ v, e = .returned (.tuple #[v, .int .i64 (lexC (lexT (shwP ds es))), .int .i64 (lexP (lexT (shwP ds es)))])) ∧ Below W.heap.size W w') := fun W => tok_call _ W HLN.out
  have HR : Hid (lexC (lexT (shwP ds es)) ≠ 15 → ∀ W, Calls Tryz.prog 15 #[.string ⟨(shwP ds es).toArray⟩] W fun e w' =>
    (∃ a1 n1 c1 a2 n2 c2 ds2 es2, e = .returned (.tuple #[.agg #[.slice a1 n1 c1, .slice a2 n2 c2], .int .i64 0, .int .i64 0]) ∧ PV w'.heap.size w' (.agg #[.slice a1 n1 c1, .slice a2 n2 c2]) ds2 es2 ∧ SameP ds ds2 es es2 ∧ progB ds2 es2 = true ∧ ∀ x ∈ es2, szX x ≤ 3000) ∧ Below W.heap.size W w') := fun hn W => back_call HPB.out HLN.out hn W
  have HSH : Hid (∀ ds2 es2, SameP ds ds2 es es2 → shwP ds2 es2 = shwP ds es) := fun _ _ h => (sameP_text h).symm
  clear hv hr
  generalize hT : shwP ds es = T at *
  clear hT
  generalize lexC (lexT T) = cc at *
  generalize lexP (lexT T) = pp at *
  go_wp2_with fail
  refine (HW.out _ (ba (Below.refl _ _))).mono ?_
  rintro e w3 ⟨rfl, hb3⟩
  have p0 : w3.cell? ⟨w2.heap.size, 0, none⟩ = some (.slice a1 n1 c1) := (hb3.cell (p := ⟨w2.heap.size, 0, none⟩) (by simp)).trans (by go_simp)
  have p1 : w3.cell? ⟨w2.heap.size, 1, none⟩ = some (.slice a2 n2 c2) := (hb3.cell (p := ⟨w2.heap.size, 1, none⟩) (by simp)).trans (by go_simp)
  have lp := lt_cell p0
  have HB3 : Hid (Below w2.heap.size w2 w3) := bl2 (ba (Below.refl _ _)) hb3
  clear hb3 HW
  go_wp2_with fail
  refine (HF.out _ HB3.out).mono ?_
  rintro e w4 ⟨rfl, hb4⟩
  have q0 : w4.cell? ⟨w2.heap.size, 0, none⟩ = some (.slice a1 n1 c1) := (hb4.cell (p := ⟨w2.heap.size, 0, none⟩) lp).trans p0
  have q1 : w4.cell? ⟨w2.heap.size, 1, none⟩ = some (.slice a2 n2 c2) := (hb4.cell (p := ⟨w2.heap.size, 1, none⟩) lp).trans p1
  have lq := lt_cell q0
  have HB4 : Hid (Below w2.heap.size w2 w4) := bl2 HB3.out hb4
  clear hb4 p0 p1 lp HB3 HF
  go_wp2_with fail
  refine (HT.out _).mono ?_
  rintro e w5 ⟨⟨v5, rfl⟩, hb5⟩
  have r0 : w5.cell? ⟨w2.heap.size, 0, none⟩ = some (.slice a1 n1 c1) := (hb5.cell (p := ⟨w2.heap.size, 0, none⟩) lq).trans q0
  have r1 : w5.cell? ⟨w2.heap.size, 1, none⟩ = some (.slice a2 n2 c2) := (hb5.cell (p := ⟨w2.heap.size, 1, none⟩) lq).trans q1
  have lr := lt_cell r0
  have HB5 : Hid (Below w2.heap.size w2 w5) := bl2 HB4.out hb5
  clear hb5 q0 q1 lq HB4 HT
  by_cases h15 : cc = 15
  · subst h15
    go_wp2_with fail
    go_ret
    exact ⟨rfl, bl2 HB2.out HB5.out⟩
  · have z15 : (cc == 15) = false := by rw [beq_eq_false_iff_ne]; exact h15
    have HR2 := Hid.intro (HR.out h15)
    clear h15 HR
    go_wp2_with fail
    refine (HR2.out _).mono ?_
    rintro e w6 ⟨⟨b1, k1, d1, b2, k2, d2, ds2, es2, rfl, hv2, hsame, hp2, hz2⟩, hb6⟩
    have s0 : w6.cell? ⟨w2.heap.size, 0, none⟩ = some (.slice a1 n1 c1) := (hb6.cell (p := ⟨w2.heap.size, 0, none⟩) lr).trans r0
    have s1 : w6.cell? ⟨w2.heap.size, 1, none⟩ = some (.slice a2 n2 c2) := (hb6.cell (p := ⟨w2.heap.size, 1, none⟩) lr).trans r1
    have ls := lt_cell s0
    have HB6 : Hid (Below w2.heap.size w2 w6) := bl2 HB5.out hb6
    have HW2 : Hid (∀ W, Below w6.heap.size w6 W → Calls Tryz.prog 11 #[.agg #[.slice b1 k1 d1, .slice b2 k2 d2]] W fun e w' => e = .returned (.tuple #[.string ⟨T.toArray⟩, .int .i64 0]) ∧ Below W.heap.size W w') := fun W hW => by
      have := showP_any ds2 es2 _ w6.heap.size W (hv2.keep hW) hW.size (HOK.out W (bl2 HB6.out hW)) (fun hq => by have := shwP_len 3000 hq hz2; omega)
      rw [hp2, if_pos rfl, HSH.out _ _ hsame] at this; exact this
    have HQ : Hid (∀ W, Below w6.heap.size w6 W → Calls Tryz.prog 16 #[.agg #[.slice a1 n1 c1, .slice a2 n2 c2], .agg #[.slice b1 k1 d1, .slice b2 k2 d2], .bool false] W fun e w' => e = .returned (.bool true) ∧ Below W.heap.size W w') := fun W hW => by
      have hBW : Below w2.heap.size w2 W := bl2 HB6.out hW
      have := sameP_any ds ds2 es es2 _ _ w2.heap.size w6.heap.size W (HV.out.keep hBW) (hv2.keep hW) hBW.size hW.size
      rw [yes_t hsame] at this
      exact this
    clear hb6 r0 r1 lr HB5 hv2 hsame hp2 hz2 HSH HR2
    go_wp2_with fail
    refine (HW2.out _ (ba (Below.refl _ _))).mono ?_
    rintro e w7 ⟨rfl, hb7⟩
    have t0 : w7.cell? ⟨w2.heap.size, 0, none⟩ = some (.slice a1 n1 c1) := (hb7.cell (p := ⟨w2.heap.size, 0, none⟩) (by simp; omega)).trans (by rw [World.cell?_alloc_old _ _ _ (by dsimp only; omega)]; exact s0)
    have t1 : w7.cell? ⟨w2.heap.size, 1, none⟩ = some (.slice a2 n2 c2) := (hb7.cell (p := ⟨w2.heap.size, 1, none⟩) (by simp; omega)).trans (by rw [World.cell?_alloc_old _ _ _ (by dsimp only; omega)]; exact s1)
    have u0 : w7.cell? ⟨w6.heap.size, 0, none⟩ = some (.slice b1 k1 d1) := (hb7.cell (p := ⟨w6.heap.size, 0, none⟩) (by simp)).trans (by go_simp)
    have u1 : w7.cell? ⟨w6.heap.size, 1, none⟩ = some (.slice b2 k2 d2) := (hb7.cell (p := ⟨w6.heap.size, 1, none⟩) (by simp)).trans (by go_simp)
    have HB7 : Hid (Below w6.heap.size w6 w7) := bl2 (ba (Below.refl _ _)) hb7
    clear hb7 s0 s1 HW2
    go_wp2_with fail
    refine (HQ.out _ HB7.out).mono ?_
    rintro e w8 ⟨rfl, hb8⟩
    go_wp2_with fail
    go_ret
    exact ⟨ret_bool (by simp), bl2 (bl2 HB2.out (bl2 HB6.out HB7.out)) hb8⟩
end Go.Proofs.YtkljakeccfnakaaGreatDoor
