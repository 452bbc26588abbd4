/-
  The walk of ParseRound.
-/
import Derived.Test.YtlkidgilhlpjhaaDoorHV
import Derived.Test.YtlkidgilhlpjhaaDoorHS
namespace Go.Proofs.YtlkidgilhlpjhaaDoor
open Go.RowKit

theorem ans_zero {lo : Nat} {w : World} {v : Value} {p : Nat} {l : List UInt8} (h : ParseA lo w v 0 p l) : ∃ ts ds es r, lexT l = .ok ts ∧ parseO l.length ts = .ok (progE ds es) r ∧ PrV lo w v ds es := by
  unfold ParseA at h
  split at h
  · rename_i c' p' hl; have := lex_err hl; have := h.2.1; omega
  · rename_i ts hl
    split at h
    · rename_i X r hX
      obtain ⟨_, _, ds, es, rfl, hp⟩ := h
      exact ⟨ts, ds, es, r, hl, hX, hp⟩
    · have := h.2.1; omega
    · have := h.2.1; omega
    · exact h.elim
theorem PrV.below {lo : Nat} {w w' : World} {v : Value} {ds es : List Ex} (h : PrV lo w v ds es) (hb : Below w.heap.size w w') : PrV lo w' v ds es := h.keep ((Kept.refl lo w).below hb)
/-- A program of one domain in memory. -/
theorem pr_first {lo : Nat} {w : World} {v : Value} {x : Ex} (h : PrV lo w v [] [x]) : ∃ (pa : Option Addr) (px bk off py : Nat), v = .agg #[.slice pa 0 px, .slice (some ⟨bk, off, none⟩) 1 py] ∧
    ∃ (kd : Nat) (nn : Int) (pp : Nat) (tx ox : ByteArray) (a : Option Addr) (ln cp : Nat), bk < w.heap.size ∧ (w.cell? ⟨bk, off, none⟩ = some (.int .i64 (kd : Int)) ∧ w.cell? ⟨bk, off + 1, none⟩ = some (.string tx) ∧ w.cell? ⟨bk, off + 2, none⟩ = some (.string ox) ∧ w.cell? ⟨bk, off + 3, none⟩ = some (.int .i64 (nn : Int)) ∧ w.cell? ⟨bk, off + 4, none⟩ = some (.int .i64 (pp : Int)) ∧ w.cell? ⟨bk, off + 5, none⟩ = some (.slice a ln cp)) ∧ ExV lo w (.agg #[.int .i64 (kd : Int), .string tx, .string ox, .int .i64 (nn : Int), .int .i64 (pp : Int), .slice a ln cp]) x := by
  obtain ⟨vd, vx, rfl, hd, hx⟩ := h
  obtain ⟨_, a, cap, rfl, _, _⟩ := hd
  obtain ⟨b, off, cq, e, _, r⟩ := kids_row hx (by simp [Ex.kids])
  have e' : vx = .slice (some ⟨b, off, none⟩) 1 cq := by
    simp only [exV, Value.agg.injEq, Array.mk.injEq, List.cons.injEq] at e
    exact e.2.2.2.2.2.1
  subst e'
  obtain ⟨kd, nn, pp, tx, ox, a2, ln, cp, hl, hc, hv⟩ := r 0 x rfl
  simp only [Nat.zero_mul, Nat.add_zero] at hc
  exact ⟨a, cap, b, off, cq, rfl, kd, nn, pp, tx, ox, a2, ln, cp, hl, hc, hv⟩
theorem ans_ok {lo : Nat} {w : World} {v : Value} {c p : Nat} {l : List UInt8} {us r : List Tok} {x : Ex} (h : ParseA lo w v c p l) (hl : lexT l = .ok us) (hr : parseO l.length us = .ok (progE [] [x]) r) : c = 0 ∧ PrV lo w v [] [x] := by
  unfold ParseA at h
  rw [hl] at h
  dsimp only at h
  rw [hr] at h
  obtain ⟨h0, _, ds, es, e, hp⟩ := h
  refine ⟨h0, ?_⟩
  simp only [progE, Ex.mk.injEq] at e
  obtain ⟨_, _, _, e1, _, e2⟩ := e
  have : ds = [] := List.eq_nil_of_length_eq_zero (by simp at e1; omega)
  subst this
  simp at e2
  subst e2
  exact hp
set_option maxHeartbeats 8000000 in
theorem parseRound_walk (C : ParseC) (L : LexC) (s : ByteArray) (w : World) (hs : s.size ≤ 140737488351232) :
    Calls Tryd.prog 4 #[.string s] w fun e w' => e = .returned (.bool true) ∧ Below w.heap.size w w' := by
  have HA : Hid (∀ W, Calls Tryd.prog 6 #[] W fun e w' => e = .returned (.bool true) ∧ Below W.heap.size W w') := fun W => awake_any C W
  have HP : Hid (∀ W, Calls Tryd.prog 8 #[.string s] W fun e w' => (∃ (v : Value) (c p : Nat), e = .returned (.tuple #[v, .int .i64 (c : Int), .int .i64 (p : Int)]) ∧ ParseA W.heap.size w' v c p s.data.toList) ∧ Below W.heap.size W w') := fun W => C.parse s W hs
  have HC := Hid.intro C
  have HL := Hid.intro L
  have HZ : Hid (s.data.toList.length = s.size) := (Lib.size_eq s).symm
  clear C L
  go_enter Tryd.func4, Tryd.ntmps4
  go_wp2_with fail
  refine (HA.out _).mono ?_
  rintro e w1 ⟨rfl, hb1⟩
  go_wp2_with fail
  refine (HP.out _).mono ?_
  rintro e w2 ⟨⟨v, c, p, rfl, hA⟩, hb2⟩
  have HB : Hid (Below w.heap.size w w2) := Hid.intro (bl2 hb1 hb2)
  have HAns := Hid.intro hA
  have l12 : w.heap.size ≤ w1.heap.size := hb1.size
  clear hb1 hb2
  by_cases hc : c = 0
  case neg =>
    obtain ⟨pa, pn, px, pb, pm, py, rfl⟩ := ans_form hA
    have hc' : ((c : Int) != 0) = true := intx_ne (by omega)
    clear hc hA
    go_wp2
    all_goals (go_ret; exact ⟨rfl, ba HB.out⟩)
  subst hc
  obtain ⟨ts, ds, es, r, hl, hr, hpv⟩ := ans_zero hA
  obtain ⟨pa, px, pb, py, rfl⟩ := hpv.form
  have HPV := Hid.intro hpv
  have HLx := Hid.intro hl
  have HRx := Hid.intro hr
  clear hA hpv hl hr
  by_cases h1 : es.length = 1
  case neg =>
    have h1' : ((es.length : Int) != 1) = true := intx_ne (by omega)
    clear h1
    generalize es.length = en at *
    generalize ds.length = dn at *
    go_wp2
    all_goals (go_ret; exact ⟨rfl, ba HB.out⟩)
  by_cases h2 : ds.length = 0
  case neg =>
    have h2' : ((ds.length : Int) != 0) = true := intx_ne (by omega)
    clear h2
    rw [h1]
    generalize ds.length = dn at *
    go_wp2
    all_goals (go_ret; exact ⟨rfl, ba HB.out⟩)
  by_cases h3 : 8000 < s.size
  · have h3' : (8000 : Int) < (s.size : Int) := by omega
    rw [h1, h2]
    go_wp2
    all_goals (go_ret; exact ⟨rfl, ba HB.out⟩)
  obtain ⟨x, rfl⟩ : ∃ x, es = [x] := List.length_eq_one_iff.1 h1
  obtain rfl : ds = [] := List.length_eq_zero_iff.1 h2
  have h3' : ¬ (8000 : Int) < (s.size : Int) := by omega
  rw [h1, h2]
  clear h1 h2
  have hT := fun W => tokens_at HL.out s W hs
  rw [HLx.out] at hT
  have HT : Hid (∀ W : World, Calls Tryd.prog 7 #[.string s] W fun e w' => (∃ v, e = .returned (.tuple #[v, .int .i64 0, .int .i64 0]) ∧ TokSl w' v ts) ∧ Below W.heap.size W w') := hT
  clear hT
  go_wp2_with fail
  refine (HT.out _).mono ?_
  rintro e w3 ⟨⟨v, rfl, hv⟩, hb3⟩
  have HB3 : Hid (Below w.heap.size w w3) := Hid.intro (bl2 (ba HB.out) hb3)
  obtain ⟨hn, va, vc, rfl, hvc, _, hrow⟩ := hv
  by_cases h4 : 1400 < ts.length
  · have h4' : (1400 : Int) < (ts.length : Int) := by omega
    generalize ts.length = m at *
    go_wp2
    go_ret
    exact ⟨rfl, HB3.out⟩
  have h4' : ¬ (1400 : Int) < (ts.length : Int) := by omega
  obtain ⟨h5, t1, tm, g1, gm, gle, gl, us, x', hL2, hR2, hx⟩ := round_law HLx.out HRx.out (by omega) (by rw [HZ.out]; omega)
  have h5' : ¬ (ts.length : Int) < 3 := by omega
  have HRow := Hid.intro hrow
  have G1 := Hid.intro g1
  have GM := Hid.intro gm
  have GLE := Hid.intro gle
  have GL := Hid.intro gl
  have HL2 := Hid.intro hL2
  have HR2 := Hid.intro hR2
  have HX := Hid.intro hx
  have H3 := Hid.intro h3
  have H5 := Hid.intro h5
  clear hrow g1 gm gle gl hL2 hR2 hx h3 h5 h4
  have HNE : Hid (ts ≠ []) := fun h0 => by have := H5.out; rw [h0] at this; simp at this
  generalize ts.length = m at *
  go_wp2_with fail
  obtain ⟨n, rfl⟩ : ∃ n, m = n + 2 := ⟨m - 2, by have := H5.out; omega⟩
  have hrow2 := HRow.out.resolve_left HNE.out
  obtain ⟨b, off, rfl, hbl, htok⟩ := hrow2
  obtain ⟨_, _, _, k13⟩ := htok 1 t1 G1.out
  obtain ⟨_, km1, _, km3⟩ := htok n tm (by have := GM.out; rwa [Nat.add_sub_cancel] at this)
  clear htok
  obtain ⟨x9, hz9, hx9, hq9, hsl⟩ := piece s (i := t1.pos) (j := tm.pos + tm.text.length) GLE.out (by rw [← HZ.out]; exact GL.out)
  have e64 : (⟨tm.text.toArray⟩ : ByteArray).size = tm.text.length := by show tm.text.toArray.size = _; simp
  have hs9 : tm.pos + (⟨tm.text.toArray⟩ : ByteArray).size ≤ 8000 := by rw [e64]; have := GL.out; have := HZ.out; have := H3.out; omega
  have hsl9 : ∀ W, (Instr.slice 9 (.string s) (some (.int .i64 (t1.pos : Int))) (some (.int .i64 ((tm.pos : Int) + ((⟨tm.text.toArray⟩ : ByteArray).size : Int)))) none).run Tryd.prog W = .ok (.string x9) W := fun W => by
    have e : (tm.pos : Int) + ((⟨tm.text.toArray⟩ : ByteArray).size : Int) = ((tm.pos + tm.text.length : Nat) : Int) := by rw [e64]; simp
    rw [e]
    exact hsl W
  obtain ⟨y9, hy9, ha9⟩ : ∃ y : ByteArray, y = ⟨#[100, 111, 109, 97, 105, 110, 32, 40, 40]⟩ ++ x9 ∧ ∀ W, (Op.stringOp .add ⟨#[100, 111, 109, 97, 105, 110, 32, 40, 40]⟩ x9).run Tryd.prog W = .ok (.string y) W := by
    refine ⟨_, rfl, fun W => run_string_add_sum W _ _ ?_⟩
    have e1 : (⟨#[100, 111, 109, 97, 105, 110, 32, 40, 40]⟩ : ByteArray).size = 9 := rfl
    omega
  obtain ⟨z9, hz99, hb9⟩ : ∃ y : ByteArray, y = y9 ++ ⟨#[10, 41, 41, 32, 101, 110, 100]⟩ ∧ ∀ W, (Op.stringOp .add y9 ⟨#[10, 41, 41, 32, 101, 110, 100]⟩).run Tryd.prog W = .ok (.string y) W := by
    refine ⟨_, rfl, fun W => run_string_add_sum W _ _ ?_⟩
    have e1 : (⟨#[100, 111, 109, 97, 105, 110, 32, 40, 40]⟩ : ByteArray).size = 9 := rfl
    have e2 : (⟨#[10, 41, 41, 32, 101, 110, 100]⟩ : ByteArray).size = 7 := rfl
    rw [hy9, ByteArray.size_append]
    omega
  have hd9 : z9.data.toList = roundL ((s.data.toList.drop t1.pos).take (tm.pos + tm.text.length - t1.pos)) := by
    rw [hz99, hy9, bytes_append, bytes_append, hx9]
    simp [roundL]
  have HP10 : Hid (∀ W, Calls Tryd.prog 8 #[.string z9] W fun e w' => (∃ (v : Value) (p : Nat), e = .returned (.tuple #[v, .int .i64 0, .int .i64 (p : Int)]) ∧ PrV W.heap.size w' v [] [x']) ∧ Below W.heap.size W w') := fun W => by
    refine (HC.out.parse z9 W ?_).mono fun e w' ⟨⟨v, c, p, he, hA⟩, hb⟩ => ⟨?_, hb⟩
    · have e1 : (⟨#[100, 111, 109, 97, 105, 110, 32, 40, 40]⟩ : ByteArray).size = 9 := rfl
      have e2 : (⟨#[10, 41, 41, 32, 101, 110, 100]⟩ : ByteArray).size = 7 := rfl
      rw [hz99, hy9, ByteArray.size_append, ByteArray.size_append]
      omega
    · rw [hd9] at hA
      obtain ⟨rfl, hp⟩ := ans_ok hA HL2.out HR2.out
      exact ⟨v, p, he, hp⟩
  clear e64 hsl hz9 hx9 hq9 hy9 hz99 hd9
  generalize t1.pos = p1 at *
  generalize tm.pos = pm at *
  generalize (⟨tm.text.toArray⟩ : ByteArray) = tx at *
  go_quiet (fail)
  simp only [Exit.then]
  clear k13 km1 km3 hsl9
  go_wp2_with fail
  refine (HP10.out _).mono ?_
  rintro e w4 ⟨⟨v4, p4, rfl, hv4⟩, hb4⟩
  obtain ⟨qa, qx, b2, o2, qy, rfl, kd4, nn4, pp4, tx4, ox4, a4, ln4, cp4, l4, ⟨m0, m1, m2, m3, m4, m5⟩, hx4⟩ := pr_first hv4
  obtain ⟨pa', px', b1, o1, py', ee, kd3, nn3, pp3, tx3, ox3, a3, ln3, cp3, l3, ⟨k0, k1, k2, k3, k4, k5⟩, hx3⟩ := pr_first HPV.out
  simp only [Value.agg.injEq, Array.mk.injEq, List.cons.injEq, Value.slice.injEq, List.length_nil, List.length_cons, and_true, true_and] at ee
  obtain ⟨⟨rfl, rfl⟩, rfl, rfl⟩ := ee
  have B24 := bl2 (below_drewN hb3 nq) hb4
  have X1 : w4.cell? ⟨w2.heap.size, 1, none⟩ = some (.slice (some ⟨b1, o1, none⟩) 1 py) := (B24.cell (p := ⟨w2.heap.size, 1, none⟩) (by simp)).trans (by go_simp)
  have B2w : Below w2.heap.size w2 w4 := bl2 (ba (Below.refl _ _)) B24
  have HB4 : Hid (Below w.heap.size w w4) := bl2 (below_drewN HB3.out nq) hb4
  clear hb3 hb4 B24 hbl
  go_wp2_with fail
  have B45 : Below w4.heap.size w4 (w4.alloc (.cells #[.slice qa 0 qx, .slice (some ⟨b2, o2, none⟩) 1 qy] 33)) := ba (Below.refl _ _)
  have Y1 : (w4.alloc (.cells #[.slice qa 0 qx, .slice (some ⟨b2, o2, none⟩) 1 qy] 33)).cell? ⟨w4.heap.size, 1, none⟩ = some (.slice (some ⟨b2, o2, none⟩) 1 qy) := by go_simp
  generalize (w4.alloc (.cells #[.slice qa 0 qx, .slice (some ⟨b2, o2, none⟩) 1 qy] 33)) = wr at *
  have B2 := bl2 B2w B45
  have g1 := Nat.lt_of_lt_of_le l3 B2.size
  have g2 := Nat.lt_of_lt_of_le l4 B45.size
  have L0 := later_cell (W := wr) (a := ⟨b1, o1, none⟩) g1 ((B2.cell (p := ⟨b1, o1, none⟩) l3).trans k0)
  have M0 := later_cell (W := wr) (a := ⟨b2, o2, none⟩) g2 ((B45.cell (p := ⟨b2, o2, none⟩) l4).trans m0)
  have L1 := later_cell (W := wr) (a := ⟨b1, o1 + 1, none⟩) g1 ((B2.cell (p := ⟨b1, o1 + 1, none⟩) l3).trans k1)
  have M1 := later_cell (W := wr) (a := ⟨b2, o2 + 1, none⟩) g2 ((B45.cell (p := ⟨b2, o2 + 1, none⟩) l4).trans m1)
  have L2 := later_cell (W := wr) (a := ⟨b1, o1 + 2, none⟩) g1 ((B2.cell (p := ⟨b1, o1 + 2, none⟩) l3).trans k2)
  have M2 := later_cell (W := wr) (a := ⟨b2, o2 + 2, none⟩) g2 ((B45.cell (p := ⟨b2, o2 + 2, none⟩) l4).trans m2)
  have L3 := later_cell (W := wr) (a := ⟨b1, o1 + 3, none⟩) g1 ((B2.cell (p := ⟨b1, o1 + 3, none⟩) l3).trans k3)
  have M3 := later_cell (W := wr) (a := ⟨b2, o2 + 3, none⟩) g2 ((B45.cell (p := ⟨b2, o2 + 3, none⟩) l4).trans m3)
  have L4 := later_cell (W := wr) (a := ⟨b1, o1 + 4, none⟩) g1 ((B2.cell (p := ⟨b1, o1 + 4, none⟩) l3).trans k4)
  have M4 := later_cell (W := wr) (a := ⟨b2, o2 + 4, none⟩) g2 ((B45.cell (p := ⟨b2, o2 + 4, none⟩) l4).trans m4)
  have L5 := later_cell (W := wr) (a := ⟨b1, o1 + 5, none⟩) g1 ((B2.cell (p := ⟨b1, o1 + 5, none⟩) l3).trans k5)
  have M5 := later_cell (W := wr) (a := ⟨b2, o2 + 5, none⟩) g2 ((B45.cell (p := ⟨b2, o2 + 5, none⟩) l4).trans m5)
  have X5 := later_cell (W := wr) (a := ⟨w2.heap.size, 1, none⟩) (Nat.lt_of_lt_of_le (lt_cell X1) B45.size) ((B45.cell (p := ⟨w2.heap.size, 1, none⟩) (lt_cell X1)).trans X1)
  have Y5 := later_cell (W := wr) (a := ⟨w4.heap.size, 1, none⟩) (lt_cell Y1) Y1
  have ne : Nonempty (Later wr) := ⟨⟨wr, Below.refl _ _⟩⟩
  have HC10 : Hid (∀ W : World, Below wr.heap.size wr W → Calls Tryd.prog 10 #[.agg #[.int .i64 (kd3 : Int), .string tx3, .string ox3, .int .i64 (nn3 : Int), .int .i64 (pp3 : Int), .slice a3 ln3 cp3], .agg #[.int .i64 (kd4 : Int), .string tx4, .string ox4, .int .i64 (nn4 : Int), .int .i64 (pp4 : Int), .slice a4 ln4 cp4], .bool false] W fun e w' => e = .returned (.bool true) ∧ Below W.heap.size W w') := fun W hW => by
    have e : sameB5 false x x' = true := same_yes (by simp only [SameX]; exact HX.out)
    rw [← e]
    exact same_any (szE x) x x' _ _ false _ _ W (Nat.le_refl _) (hx3.keep ((Kept.refl _ _).below (bl2 B2 hW))) (hx4.keep ((Kept.refl _ _).below (bl2 B45 hW)))
  have HB5 : Hid (Below w.heap.size w wr) := bl2 HB4.out B45
  clear k0 k1 k2 k3 k4 k5 m0 m1 m2 m3 m4 m5 hx3 hx4 X1 Y1 B45 B2 B2w hv4
  refine wp_region_later (by kernel_rfl) (by kernel_rfl) ?_
  repeat (go_big_quiet_step ((go_at_call 10; exact calls_later (HC10.out _ (Later.h _)))))
  refine wpQuiet_nil ?_
  rintro wq ⟨⟨wv, hwq⟩, hE⟩; obtain rfl : wq = wv := hE
  clear L0 L1 L2 L3 L4 L5 M0 M1 M2 M3 M4 M5 X5 Y5 ne
  simp only [Exit.then]
  go_wp2_with fail
  go_ret
  exact ⟨rfl, bl2 HB5.out hwq⟩
end Go.Proofs.YtlkidgilhlpjhaaDoor
