/-
  The walk of ShowParts.
-/
import Derived.Test.YtjndknnjboffbaaGreatDoorUb
import Derived.Test.YtjndknnjboffbaaGreatDoorUa
namespace Go.Proofs.YtjndknnjboffbaaGreatDoor
open Go.RowKit

/-- What the laws of a program are handed. -/
structure LawK (hi : Nat) (w : World) (v : Value) (ds : List Dl) (es : List Px) : Prop where
  pv : PV hi w v ds es
  hhi : hi ≤ w.heap.size
  ok : Ok w.heap.size w
  sz : ∀ x ∈ es, szX x ≤ 1000000000000000
theorem LawK.awake {hi : Nat} {w : World} {v : Value} {ds : List Dl} {es : List Px} (h : LawK hi w v ds es) {W : World} (hW : Below w.heap.size w W) : Calls Tryz.prog 8 #[] W fun e w' => e = .returned (.bool true) ∧ Below W.heap.size W w' :=
  awake_any W ((h.ok.keep hW).up hW.size)
theorem LawK.small {hi : Nat} {w : World} {v : Value} {ds : List Dl} {es : List Px} (h : LawK hi w v ds es) {W : World} (hW : Below w.heap.size w W) : Calls Tryz.prog 9 #[v] W fun e w' => e = .returned (.bool (smallP ds es)) ∧ Below W.heap.size W w' :=
  smallP_any ds es v hi W (h.pv.keep (hW.mono h.hhi)) (Nat.le_trans h.hhi hW.size) h.sz
theorem LawK.show {hi : Nat} {w : World} {v : Value} {ds : List Dl} {es : List Px} (h : LawK hi w v ds es) (hs : smallP ds es = true) {W : World} (hW : Below w.heap.size w W) : Calls Tryz.prog 10 #[v] W fun e w' => e = .returned (.tuple #[.string ⟨(if progB ds es then shwP ds es else []).toArray⟩, .int .i64 (if progB ds es then 0 else 3)]) ∧ Below W.heap.size W w' :=
  showP_any ds es v hi W (h.pv.keep (hW.mono h.hhi)) (Nat.le_trans h.hhi hW.size) ((h.ok.keep hW).up hW.size) fun hp => by
    have := shwP_len 2000 hp (small_sz hs)
    omega
theorem row_one {hi : Nat} {w : World} {b off : Nat} {l : List Px} (h : Row hi w b off l) {i : Nat} {y : Px} (hy : l[i]? = some y) : Row hi w b (off + i * 6) [y] := by
  refine ⟨h.1, fun j x hj => ?_⟩
  match j, hj with
  | 0, hj =>
    simp only [List.getElem?_cons_zero, Option.some.injEq] at hj
    subst hj
    obtain ⟨a, cp, hc, hv⟩ := h.2 i y hy
    refine ⟨a, cp, ?_, hv⟩
    unfold KidC at *
    rw [show off + i * 6 + 0 * 6 = off + i * 6 by omega]
    exact hc
/-- A part is shown. -/
theorem part_call {hi : Nat} {w : World} {v : Value} {ds : List Dl} {es : List Px} (K : LawK hi w v ds es) (hp : progB ds es = true) (hl : (shwP ds es).length ≤ 2000000) {i : Nat} {y : Px} (hy : es[i]? = some y) {W : World} (hW : Below w.heap.size w W) {v' : Value} {d' : List Dl} (hd : d' = if i = 0 then ds else []) (hv : PV hi W v' d' [y]) :
    Calls Tryz.prog 10 #[v'] W fun e w' => e = .returned (.tuple #[.string ⟨(shwP d' [y]).toArray⟩, .int .i64 0]) ∧ Below W.heap.size W w' := by
  have hq : progB d' [y] = true := by rw [hd]; exact part_form hp hy
  have hlen : (shwP d' [y]).length ≤ 2000000 := by
    have h1 := partsT_len ds es (i + 1)
    rw [partsT_succ hy, ← hd, List.length_append] at h1
    omega
  refine (showP_any d' [y] v' hi W hv (Nat.le_trans K.hhi hW.size) ((K.ok.keep hW).up hW.size) (fun _ => by omega)).mono ?_
  rintro e w' ⟨rfl, hb⟩
  rw [hq]
  exact ⟨rfl, hb⟩
set_option maxHeartbeats 16000000 in
theorem parts_walk (ds : List Dl) (es : List Px) (a1 a2 : Option Addr) (n1 c1 n2 c2 hi : Nat) (w : World) (K : Hid (LawK hi w (.agg #[.slice a1 n1 c1, .slice a2 n2 c2]) ds es)) (hn : n1 = ds.length ∧ n2 = es.length) (hR : es = [] ∨ ∃ b off, a2 = some ⟨b, off, none⟩ ∧ Row hi w b off es) (hD : DSl hi w a1 c1 ds) (hc2 : n2 ≤ c2) :
    Calls Tryz.prog 6 #[.agg #[.slice a1 n1 c1, .slice a2 n2 c2]] w fun e w' => e = .returned (.bool true) ∧ Below w.heap.size w w' := by
  have HN := Hid.intro hn
  have HR := Hid.intro hR
  have HD := Hid.intro hD
  clear hn hR hD
  cases hs : smallP ds es with
  | false =>
    have HA : Hid (∀ W, Below w.heap.size w W → Calls Tryz.prog 8 #[] W fun e w' => e = .returned (.bool true) ∧ Below W.heap.size W w') := fun W hW => K.out.awake hW
    have HS : Hid (∀ W, Below w.heap.size w W → Calls Tryz.prog 9 #[.agg #[.slice a1 n1 c1, .slice a2 n2 c2]] W fun e w' => e = .returned (.bool false) ∧ Below W.heap.size W w') := fun W hW => by
      have := K.out.small hW; rw [hs] at this; exact this
    go_enter Tryz.func6, Tryz.ntmps6
    go_wp2_with fail
    refine (HA.out _ (ba (Below.refl _ _))).mono ?_
    rintro e w1 ⟨rfl, hb1⟩
    have p0 : w1.cell? ⟨w.heap.size, 0, none⟩ = some (.slice a1 n1 c1) := (hb1.cell (p := ⟨w.heap.size, 0, none⟩) (by simp)).trans (by go_simp)
    have p1 : w1.cell? ⟨w.heap.size, 1, none⟩ = some (.slice a2 n2 c2) := (hb1.cell (p := ⟨w.heap.size, 1, none⟩) (by simp)).trans (by go_simp)
    have lp := lt_cell p0
    have HB1 : Hid (Below w.heap.size w w1) := bl2 (ba (Below.refl _ _)) hb1
    clear hb1
    go_wp2_with fail
    refine (HS.out _ HB1.out).mono ?_
    rintro e w2 ⟨rfl, hb2⟩
    go_wp2_with fail
    go_ret
    exact ⟨rfl, bl2 HB1.out hb2⟩
  | true =>
    have HA : Hid (∀ W, Below w.heap.size w W → Calls Tryz.prog 8 #[] W fun e w' => e = .returned (.bool true) ∧ Below W.heap.size W w') := fun W hW => K.out.awake hW
    have HS : Hid (∀ W, Below w.heap.size w W → Calls Tryz.prog 9 #[.agg #[.slice a1 n1 c1, .slice a2 n2 c2]] W fun e w' => e = .returned (.bool true) ∧ Below W.heap.size W w') := fun W hW => by
      have := K.out.small hW; rw [hs] at this; exact this
    cases hp : progB ds es with
    | false =>
      have HW : Hid (∀ W, Below w.heap.size w W → Calls Tryz.prog 10 #[.agg #[.slice a1 n1 c1, .slice a2 n2 c2]] W fun e w' => e = .returned (.tuple #[.string ⟨#[]⟩, .int .i64 3]) ∧ Below W.heap.size W w') := fun W hW => by
        have := K.out.show hs hW; rw [hp] at this; exact this
      go_enter Tryz.func6, Tryz.ntmps6
      go_wp2_with fail
      refine (HA.out _ (ba (Below.refl _ _))).mono ?_
      rintro e w1 ⟨rfl, hb1⟩
      have p0 : w1.cell? ⟨w.heap.size, 0, none⟩ = some (.slice a1 n1 c1) := (hb1.cell (p := ⟨w.heap.size, 0, none⟩) (by simp)).trans (by go_simp)
      have p1 : w1.cell? ⟨w.heap.size, 1, none⟩ = some (.slice a2 n2 c2) := (hb1.cell (p := ⟨w.heap.size, 1, none⟩) (by simp)).trans (by go_simp)
      have lp := lt_cell p0
      have HB1 : Hid (Below w.heap.size w w1) := bl2 (ba (Below.refl _ _)) hb1
      clear hb1
      go_wp2_with fail
      refine (HS.out _ HB1.out).mono ?_
      rintro e w2 ⟨rfl, hb2⟩
      have q0 : w2.cell? ⟨w.heap.size, 0, none⟩ = some (.slice a1 n1 c1) := (hb2.cell (p := ⟨w.heap.size, 0, none⟩) lp).trans p0
      have q1 : w2.cell? ⟨w.heap.size, 1, none⟩ = some (.slice a2 n2 c2) := (hb2.cell (p := ⟨w.heap.size, 1, none⟩) lp).trans p1
      have lq := lt_cell q0
      have HB2 : Hid (Below w.heap.size w w2) := bl2 HB1.out hb2
      clear hb2 p0 p1 lp HB1
      go_wp2_with fail
      refine (HW.out _ HB2.out).mono ?_
      rintro e w3 ⟨rfl, hb3⟩
      go_wp2_with fail
      go_ret
      exact ⟨rfl, bl2 HB2.out hb3⟩
    | true =>
      have HSZ := Hid.intro (small_sz hs)
      have HPB := Hid.intro hp
      have HLN : Hid ((shwP ds es).length ≤ 2000000) := by have := shwP_len 2000 hp (small_sz hs); show _ ≤ _; omega
      have hn3 := (progB_parts hp).2.2.1
      rw [← HN.out.2] at hn3
      have HW : Hid (∀ W, Below w.heap.size w W → Calls Tryz.prog 10 #[.agg #[.slice a1 n1 c1, .slice a2 n2 c2]] W fun e w' => e = .returned (.tuple #[.string ⟨(shwP ds es).toArray⟩, .int .i64 0]) ∧ Below W.heap.size W w') := fun W hW => by
        have := K.out.show hs hW; rw [hp] at this; exact this
      clear hs hp
      go_enter Tryz.func6, Tryz.ntmps6
      go_wp2_with fail
      refine (HA.out _ (ba (Below.refl _ _))).mono ?_
      rintro e w1 ⟨rfl, hb1⟩
      have p0 : w1.cell? ⟨w.heap.size, 0, none⟩ = some (.slice a1 n1 c1) := (hb1.cell (p := ⟨w.heap.size, 0, none⟩) (by simp)).trans (by go_simp)
      have p1 : w1.cell? ⟨w.heap.size, 1, none⟩ = some (.slice a2 n2 c2) := (hb1.cell (p := ⟨w.heap.size, 1, none⟩) (by simp)).trans (by go_simp)
      have lp := lt_cell p0
      have HB1 : Hid (Below w.heap.size w w1) := bl2 (ba (Below.refl _ _)) hb1
      clear hb1
      go_wp2_with fail
      refine (HS.out _ HB1.out).mono ?_
      rintro e w2 ⟨rfl, hb2⟩
      have q0 : w2.cell? ⟨w.heap.size, 0, none⟩ = some (.slice a1 n1 c1) := (hb2.cell (p := ⟨w.heap.size, 0, none⟩) lp).trans p0
      have q1 : w2.cell? ⟨w.heap.size, 1, none⟩ = some (.slice a2 n2 c2) := (hb2.cell (p := ⟨w.heap.size, 1, none⟩) lp).trans p1
      have lq := lt_cell q0
      have HB2 : Hid (Below w.heap.size w w2) := bl2 HB1.out hb2
      clear hb2 p0 p1 lp HB1
      go_wp2_with fail
      refine (HW.out _ HB2.out).mono ?_
      rintro e w3 ⟨rfl, hb3⟩
      have r0 : w3.cell? ⟨w.heap.size, 0, none⟩ = some (.slice a1 n1 c1) := (hb3.cell (p := ⟨w.heap.size, 0, none⟩) lq).trans q0
      have r1 : w3.cell? ⟨w.heap.size, 1, none⟩ = some (.slice a2 n2 c2) := (hb3.cell (p := ⟨w.heap.size, 1, none⟩) lq).trans q1
      have HB3 : Hid (Below w.heap.size w w3) := bl2 HB2.out hb3
      clear hb3 q0 q1 lq HB2
      generalize hT : shwP ds es = T at *
      have HT := Hid.intro hT
      clear hT
      go_wp2_with fail
      go_loopw [5, 6] (fun t u wr => ∃ (i : Nat) (z : List UInt8), i ≤ n2 ∧ u = .int .i64 i ∧ t = .string ⟨z.toArray⟩ ∧ z.length ≤ 2000000 ∧ Hid (z = partsT ds es i) ∧ wr.cell? ⟨w.heap.size, 0, none⟩ = some (.slice a1 n1 c1) ∧ wr.cell? ⟨w.heap.size, 1, none⟩ = some (.slice a2 n2 c2) ∧ Below w.heap.size w wr) (fun _ u _ => n2 - (intOf u).toNat)
      case atStart => exact ⟨0, [], Nat.zero_le _, rfl, rfl, by simp, (partsT_zero ds es).symm, r0, r1, HB3.out⟩
      clear r0 r1 HB3
      case round =>
        obtain ⟨i, z, hi', rfl, rfl, hzl, hz, r0, r1, hb⟩ := hrel
        have lr := lt_cell r0
        by_cases c : i < n2
        · have c' : (i : Int) < (n2 : Int) := by omega
          rcases HR.out with h0 | ⟨b, off, rfl, hRow⟩
          · exact absurd HN.out.2 (by rw [h0]; simp; omega)
          have lb : b < wr.heap.size := Nat.lt_of_lt_of_le (Nat.lt_of_lt_of_le hRow.1 K.out.hhi) hb.size
          have hiw : IntKind.i64.wrap ((i : Int) + 1) = (i : Int) + 1 := wrap_in (by omega) (by omega)
          obtain ⟨y, hy⟩ : ∃ y, es[i]? = some y := ⟨_, List.getElem?_eq_getElem (by have := HN.out.2; omega)⟩
          have HY := Hid.intro hy
          obtain ⟨t', ht'⟩ : ∃ t', t' = shwP (if i = 0 then ds else []) [y] := ⟨_, rfl⟩
          have HTT : Hid (z ++ t' = partsT ds es (i + 1)) := by show _ = _; rw [partsT_succ hy, ← hz.out, ← ht']
          have HL2 : Hid (z.length + t'.length ≤ 2000000) := by
            have h1 := partsT_len ds es (i + 1)
            rw [partsT_succ hy, ← hz.out, ← ht', List.length_append, HT.out] at h1
            exact Nat.le_trans h1 HLN.out
          have hl2 := HL2.out
          by_cases i0 : i = 0
          · subst i0
            have HC : Hid (Calls Tryz.prog 10 #[.agg #[.slice a1 n1 c1, .slice (some ⟨b, off, none⟩) 1 c2]] (wr.alloc (.cells #[.slice a1 n1 c1, .slice (some ⟨b, off, none⟩) 1 c2] 25)) fun e w' => e = .returned (.tuple #[.string ⟨t'.toArray⟩, .int .i64 0]) ∧ Below (wr.alloc (.cells #[.slice a1 n1 c1, .slice (some ⟨b, off, none⟩) 1 c2] 25)).heap.size (wr.alloc (.cells #[.slice a1 n1 c1, .slice (some ⟨b, off, none⟩) 1 c2] 25)) w') := by
              have hBW : Below w.heap.size w (wr.alloc (.cells #[.slice a1 n1 c1, .slice (some ⟨b, off, none⟩) 1 c2] 25)) := ba hb
              have := part_call K.out HPB.out (by rw [HT.out]; exact HLN.out) hy hBW (v' := .agg #[.slice a1 n1 c1, .slice (some ⟨b, off, none⟩) 1 c2]) (d' := ds) (by rw [if_pos rfl]) ⟨a1, c1, some ⟨b, off, none⟩, c2, by rw [← HN.out.1]; rfl, HD.out.keep (hBW.mono K.out.hhi), ⟨⟨by simp; omega, by simp⟩, Or.inr ⟨b, off, rfl, by have h1 := (row_one hRow hy).keep (hBW.mono K.out.hhi); rw [show off + 0 * 6 = off by omega] at h1; exact h1⟩⟩⟩
              rw [if_pos rfl] at ht'
              rw [ht']
              exact this
            clear hRow hy ht'
            go_wp2_with fail
            refine (HC.out).mono ?_
            rintro e w4 ⟨rfl, hb4⟩
            have R0 : w4.cell? ⟨w.heap.size, 0, none⟩ = some (.slice a1 n1 c1) := (hb4.cell (p := ⟨w.heap.size, 0, none⟩) (by simp; omega)).trans (by rw [World.cell?_alloc_old _ _ _ (by dsimp only; omega)]; exact r0)
            have R1 : w4.cell? ⟨w.heap.size, 1, none⟩ = some (.slice (some ⟨b, off, none⟩) n2 c2) := (hb4.cell (p := ⟨w.heap.size, 1, none⟩) (by simp; omega)).trans (by rw [World.cell?_alloc_old _ _ _ (by dsimp only; omega)]; exact r1)
            have HB4 : Hid (Below w.heap.size w w4) := bl2 (ba hb) hb4
            clear hb4
            go_wp2_with fail
            go_roundw
            case rel => exact ⟨0 + 1, z ++ t', by omega, by go_num, by simp only [bapp], by rw [List.length_append]; exact HL2.out, HTT.out, R0, R1, HB4.out⟩
            case measure => simp [intOf]; omega
          · have i0' : ((i : Int) == 0) = false := by rw [beq_eq_false_iff_ne]; omega
            have HC : Hid (Calls Tryz.prog 10 #[.agg #[.slice none 0 0, .slice (some ⟨b, off + i * 6, none⟩) 1 (c2 - i)]] (wr.alloc (.cells #[.slice none 0 0, .slice (some ⟨b, off + i * 6, none⟩) 1 (c2 - i)] 25)) fun e w' => e = .returned (.tuple #[.string ⟨t'.toArray⟩, .int .i64 0]) ∧ Below (wr.alloc (.cells #[.slice none 0 0, .slice (some ⟨b, off + i * 6, none⟩) 1 (c2 - i)] 25)).heap.size (wr.alloc (.cells #[.slice none 0 0, .slice (some ⟨b, off + i * 6, none⟩) 1 (c2 - i)] 25)) w') := by
              have hBW : Below w.heap.size w (wr.alloc (.cells #[.slice none 0 0, .slice (some ⟨b, off + i * 6, none⟩) 1 (c2 - i)] 25)) := ba hb
              have := part_call K.out HPB.out (by rw [HT.out]; exact HLN.out) hy hBW (v' := .agg #[.slice none 0 0, .slice (some ⟨b, off + i * 6, none⟩) 1 (c2 - i)]) (d' := []) (by rw [if_neg i0]) ⟨none, 0, some ⟨b, off + i * 6, none⟩, c2 - i, rfl, ⟨⟨by simp, by simp⟩, fun d hd => by simp at hd, Or.inl rfl⟩, ⟨⟨by simp; omega, by simp⟩, Or.inr ⟨b, _, rfl, (row_one hRow hy).keep (hBW.mono K.out.hhi)⟩⟩⟩
              rw [if_neg i0] at ht'
              rw [ht']
              exact this
            clear hRow hy ht' i0
            go_wp2_with fail
            refine (HC.out).mono ?_
            rintro e w4 ⟨rfl, hb4⟩
            have R0 : w4.cell? ⟨w.heap.size, 0, none⟩ = some (.slice a1 n1 c1) := (hb4.cell (p := ⟨w.heap.size, 0, none⟩) (by simp; omega)).trans (by rw [World.cell?_alloc_old _ _ _ (by dsimp only; omega)]; exact r0)
            have R1 : w4.cell? ⟨w.heap.size, 1, none⟩ = some (.slice (some ⟨b, off, none⟩) n2 c2) := (hb4.cell (p := ⟨w.heap.size, 1, none⟩) (by simp; omega)).trans (by rw [World.cell?_alloc_old _ _ _ (by dsimp only; omega)]; exact r1)
            have HB4 : Hid (Below w.heap.size w w4) := bl2 (ba hb) hb4
            clear hb4
            go_wp2_with fail
            go_roundw
            case rel => exact ⟨i + 1, z ++ t', by omega, by go_num, by simp only [bapp], by rw [List.length_append]; exact HL2.out, HTT.out, R0, R1, HB4.out⟩
            case measure => simp [intOf]; omega
        · have c' : ¬ (i : Int) < (n2 : Int) := by omega
          have E : Hid (z = T) := by
            show _ = _
            have : i = es.length := by have := HN.out.2; omega
            rw [hz.out, this, partsT_all (progB_parts HPB.out).2.1, HT.out]
          obtain rfl := E.out
          go_wp2_with fail
          go_ret
          exact ⟨ret_bool (by simp), hb⟩
end Go.Proofs.YtjndknnjboffbaaGreatDoor
