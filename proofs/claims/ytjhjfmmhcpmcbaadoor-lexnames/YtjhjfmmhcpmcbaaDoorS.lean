/-
  The walk of the statement that words are read as they were written.
-/
import Derived.Test.YtjhjfmmhcpmcbaaDoorR
namespace Go.Proofs.YtjhjfmmhcpmcbaaDoor
open Go.RowKit

/-- The value v is a slice of the bytes bs in the world w. -/
def SlB (w : World) (v : Value) (bs : List Nat) : Prop :=
  bs.length ≤ 140737488351232 ∧ ∃ a cap, v = .slice a bs.length cap ∧ (bs = [] ∨ ∃ b off, a = some ⟨b, off, none⟩ ∧ b < w.heap.size ∧ ∀ (i x : Nat), bs[i]? = some x → x < 256 ∧ w.cell? ⟨b, off + i, none⟩ = some (.int .u8 (x : Int)))
theorem SlB.below {w w' : World} {v : Value} {bs : List Nat} (h : SlB w v bs) (hb : Below w.heap.size w w') : SlB w' v bs := by
  obtain ⟨l, a, cap, e, h⟩ := h
  refine ⟨l, a, cap, e, ?_⟩
  rcases h with h | ⟨b, off, e1, e2, e3⟩
  · exact Or.inl h
  · exact Or.inr ⟨b, off, e1, Nat.lt_of_lt_of_le e2 hb.size, fun i x hi => ⟨(e3 i x hi).1, (hb.cell (p := ⟨b, off + i, none⟩) e2).trans (e3 i x hi).2⟩⟩
theorem back_add (f : Nat → Nat) : ∀ (xs : List Tok) (t : Tok) (j : Nat), backL f (xs ++ [t]) j = backL f xs j ++ (sepL (f (j + xs.length)) ++ t.text) := by
  intro xs
  induction xs with
  | nil => intro t j; show sepL (f j) ++ (t.text ++ []) = [] ++ (sepL (f (j + 0)) ++ t.text); simp
  | cons x xs ih =>
    intro t j
    show sepL (f j) ++ (x.text ++ backL f (xs ++ [t]) (j + 1)) = (sepL (f j) ++ (x.text ++ backL f xs (j + 1))) ++ _
    rw [ih, List.length_cons, show j + 1 + xs.length = j + (xs.length + 1) by omega]
    simp
theorem cat_mk (a b : List UInt8) : (⟨a.toArray⟩ : ByteArray) ++ ⟨b.toArray⟩ = ⟨(a ++ b).toArray⟩ := by
  apply ByteArray.ext; simp
theorem size_mk (a : List UInt8) : (⟨a.toArray⟩ : ByteArray).size = a.length := by rw [Lib.size_eq]

def byteF (bs : List Nat) (i : Nat) : Nat := bs.getD i 0

set_option maxRecDepth 100000 in
set_option maxHeartbeats 8000000 in
theorem lexBack_walk (C : LexC) (s : ByteArray) (vb : Value) (bs : List Nat) (w : World) (hs : s.size ≤ 140737488351232) (hv : SlB w vb bs) :
    Calls Tryd.prog 5 #[.string s, vb] w fun e w' => e = .returned (.bool true) ∧ Below w.heap.size w w' := by
  have ca := tokens_at C s
  cases hR : lexT s.data.toList with
  | err c p =>
    rw [hR] at ca
    have hc := (lexT_err hR).1
    have c0 : ((c : Int) != 0) = true := by rw [bne_iff_ne]; omega
    clear hc hR
    have ca' : ∀ w, Calls Tryd.prog 9 #[.string s] w fun e w' => (∃ v, e = .returned (.tuple #[v, .int .i64 (c : Int), .int .i64 (p : Int)]) ∧ TokSl w' v []) ∧ Below w.heap.size w w' := fun w => ca w hs
    clear ca
    go_enter Tryd.func5, Tryd.ntmps5
    go_wp2_with (first | (go_at_call 8; refine (awake_walk C _).mono ?_; rintro e w1 ⟨rfl, hb1⟩) | (go_at_call 9; refine (ca' _).mono ?_; rintro e w2 ⟨⟨v, rfl, hv⟩, hb2⟩))
    go_ret
    exact ⟨rfl, bt hb1 hb2⟩
  | ok ts =>
    rw [hR] at ca
    by_cases n200 : 200 < ts.length
    · have n2' : (200 : Int) < (ts.length : Int) := by omega
      have ca' : ∀ w, Calls Tryd.prog 9 #[.string s] w fun e w' => (∃ a cap, e = .returned (.tuple #[.slice a ts.length cap, .int .i64 0, .int .i64 0])) ∧ Below w.heap.size w w' := fun w =>
        (ca w hs).mono fun e w' ⟨⟨v, he, hv⟩, hb⟩ => by
          obtain ⟨_, a, cap, rfl, _, _, h⟩ := hv
          exact ⟨⟨a, cap, he⟩, hb⟩
      clear ca hR
      go_enter Tryd.func5, Tryd.ntmps5
      go_wp2_with (first | (go_at_call 8; refine (awake_walk C _).mono ?_; rintro e w1 ⟨rfl, hb1⟩) | (go_at_call 9; refine (ca' _).mono ?_; rintro e w2 ⟨⟨a, cap, rfl⟩, hb2⟩))
      go_ret
      exact ⟨rfl, bt hb1 hb2⟩
    · have n2' : ¬ (200 : Int) < (ts.length : Int) := by omega
      have good : ∀ t ∈ ts, Good t := by
        unfold lexT at hR
        by_cases hl : 8192 < s.data.toList.length
        · rw [if_pos hl] at hR; cases hR
        · rw [if_neg hl] at hR; exact lexA_good _ _ 0 0 ts (Nat.le_refl _) hR
      obtain ⟨us, hu1, hu2⟩ := back_read (byteF bs) ts 0 0 0 good (by omega)
      have bl := back_len (byteF bs) ts 0 good
      have hL : lexT (backL (byteF bs) ts 0) = .ok us := by unfold lexT; rw [if_neg (by omega)]; exact hu1
      have ca' : ∀ w, Calls Tryd.prog 9 #[.string s] w fun e w' => (∃ a cap, e = .returned (.tuple #[.slice a ts.length cap, .int .i64 0, .int .i64 0]) ∧ TokSl w' (.slice a ts.length cap) ts) ∧ Below w.heap.size w w' := fun w =>
        (ca w hs).mono fun e w' ⟨⟨v, he, hv⟩, hb⟩ => by
          obtain ⟨l, a, cap, rfl, h⟩ := hv
          exact ⟨⟨a, cap, he, l, a, cap, rfl, h⟩, hb⟩
      have cb : ∀ w, Calls Tryd.prog 9 #[.string ⟨(backL (byteF bs) ts 0).toArray⟩] w fun e w' => (∃ a cap, e = .returned (.tuple #[.slice a us.length cap, .int .i64 0, .int .i64 0]) ∧ TokSl w' (.slice a us.length cap) us) ∧ Below w.heap.size w w' := fun w => by
        have := tokens_at C ⟨(backL (byteF bs) ts 0).toArray⟩ w (by rw [size_mk]; omega)
        rw [show (⟨(backL (byteF bs) ts 0).toArray⟩ : ByteArray).data.toList = backL (byteF bs) ts 0 from rfl, hL] at this
        refine this.mono fun e w' ⟨⟨v, he, hv⟩, hb⟩ => ?_
        obtain ⟨l, a, cap, rfl, h⟩ := hv
        exact ⟨⟨a, cap, he, l, a, cap, rfl, h⟩, hb⟩
      have G : Hid (∀ t ∈ ts, Good t) := good
      have U : Hid (SameBut ts us) := hu2
      have V : Hid (SlB w vb bs) := hv
      obtain ⟨n, hn⟩ : ∃ n, ts.length = n := ⟨_, rfl⟩
      have HN : Hid (ts.length = n ∧ us.length = n) := ⟨hn, hu2.1.trans hn⟩
      rw [hn] at ca' n2' n200 bl
      rw [hu2.1, hn] at cb
      clear hn ca hR hu1 hu2 hL good hv
      go_enter Tryd.func5, Tryd.ntmps5
      go_wp2_with (first | (go_at_call 8; refine (awake_walk C _).mono ?_; rintro e w1 ⟨rfl, hb1⟩) | (go_at_call 9; refine (ca' _).mono ?_; rintro e w2 ⟨⟨a, cap, rfl, tk⟩, hb2⟩; clear ca'))
      have TK : Hid (ts = [] ∨ ∃ b off, a = some ⟨b, off, none⟩ ∧ b < w2.heap.size ∧ ∀ (j : Nat) (t : Tok), ts[j]? = some t → w2.cell? ⟨b, off + j * 4, none⟩ = some (.int .i64 t.kind) ∧ w2.cell? ⟨b, off + j * 4 + 1, none⟩ = some (.string ⟨t.text.toArray⟩) ∧ w2.cell? ⟨b, off + j * 4 + 2, none⟩ = some (.int .i64 t.val) ∧ w2.cell? ⟨b, off + j * 4 + 3, none⟩ = some (.int .i64 t.pos)) := by
        obtain ⟨_, a', cap', ea, _, _, htk⟩ := tk
        simp only [Value.slice.injEq] at ea
        rw [ea.1]; exact htk
      have B2 : Hid (Below w.heap.size w w2) := bt hb1 hb2
      have V2 : Hid (SlB w2 vb bs) := V.out.below B2.out
      clear tk hb1 hb2 V
      obtain ⟨lb, ab, capb, rfl, hvb⟩ := V2.out
      have VB : Hid (bs = [] ∨ ∃ b off, ab = some ⟨b, off, none⟩ ∧ b < w2.heap.size ∧ ∀ (i x : Nat), bs[i]? = some x → x < 256 ∧ w2.cell? ⟨b, off + i, none⟩ = some (.int .u8 (x : Int))) := hvb
      clear hvb V2
      go_loopw [8, 9] (fun st t wr => ∃ (i : Nat), i ≤ n ∧ t = .int .i64 i ∧ st = .string ⟨(backL (byteF bs) (ts.take i) 0).toArray⟩ ∧ wr = w2) (fun _ t _ => n - (intOf t).toNat)
      case atStart => exact ⟨0, Nat.zero_le _, rfl, by rw [List.take_zero]; rfl, rfl⟩
      case round =>
        obtain ⟨i, hi, rfl, rfl, rfl⟩ := hrel
        by_cases d : i < n
        · have d' : (i : Int) < (n : Int) := by omega
          rcases TK with TK | ⟨bk, off, rfl, hbk, hck⟩
          · have := HN.out.1; rw [TK] at this; simp at this; omega
          obtain ⟨t, ht⟩ : ∃ t, ts[i]? = some t := ⟨_, List.getElem?_eq_getElem (by have := HN.out.1; omega)⟩
          have ck := (hck i t ht).2.1
          have tl := (G.out t (List.mem_of_getElem? ht)).len
          obtain ⟨X, hX⟩ : ∃ X, backL (byteF bs) (ts.take i) 0 = X := ⟨_, rfl⟩
          have XL : X.length ≤ 5400 := by
            have := back_len (byteF bs) (ts.take i) 0 (fun x hx => G.out x (List.mem_of_mem_take hx))
            rw [hX, List.length_take] at this
            omega
          have NX : Hid (backL (byteF bs) (ts.take (i + 1)) 0 = X ++ (sepL (byteF bs i) ++ t.text)) := by
            show _ = _
            rw [List.take_add_one, ht, Option.toList_some, back_add, hX, List.length_take, show 0 + min i ts.length = i by have := HN.out.1; omega]
          rw [hX]
          clear hX hck ht
          generalize t.text = tx at *
          by_cases e : i < bs.length
          · have e' : (i : Int) < (bs.length : Int) := by omega
            rcases VB with VB | ⟨vb, vo, rfl, hvb, hvc⟩
            · rw [VB] at e; simp at e
            obtain ⟨x, hx⟩ : ∃ x, bs[i]? = some x := ⟨_, List.getElem?_eq_getElem e⟩
            obtain ⟨x256, cx⟩ := hvc i x hx
            have bx : byteF bs i = x := by unfold byteF; rw [List.getD_eq_getElem?_getD, hx]; rfl
            rw [bx] at NX
            clear hvc hx bx
            go_wp2_with fail
            · rename_i h0
              have hs4 : sepL x = [32] := by
                unfold sepL
                rw [beq_iff_eq] at h0; rw [if_pos (by omega)]
              refine ⟨⟨i + 1, by omega, by go_num, ?_, trivial⟩, by simp [intOf]; omega⟩
              rw [NX.out, hs4, ← cat_mk, ← cat_mk, ← ByteArray.append_assoc]
            · rename_i h0 h1
              have hs4 : sepL x = [10, 9] := by
                unfold sepL
                rw [beq_eq_false_iff_ne] at h0; rw [beq_iff_eq] at h1; rw [if_neg (by omega), if_pos (by omega)]
              refine ⟨⟨i + 1, by omega, by go_num, ?_, trivial⟩, by simp [intOf]; omega⟩
              rw [NX.out, hs4, ← cat_mk, ← cat_mk, ← ByteArray.append_assoc]
            · rename_i h0 h1 h2
              have hs4 : sepL x = [35, 32, 108, 101, 116, 32, 40, 32, 48, 49, 10] := by
                unfold sepL
                rw [beq_eq_false_iff_ne] at h0 h1; rw [beq_iff_eq] at h2; rw [if_neg (by omega), if_neg (by omega), if_pos (by omega)]
              refine ⟨⟨i + 1, by omega, by go_num, ?_, trivial⟩, by simp [intOf]; omega⟩
              rw [NX.out, hs4, ← cat_mk, ← cat_mk, ← ByteArray.append_assoc]
            · rename_i h0 h1 h2
              have hs4 : sepL x = [13, 32, 32] := by
                unfold sepL
                rw [beq_eq_false_iff_ne] at h0 h1 h2; rw [if_neg (by omega), if_neg (by omega), if_neg (by omega)]
              refine ⟨⟨i + 1, by omega, by go_num, ?_, trivial⟩, by simp [intOf]; omega⟩
              rw [NX.out, hs4, ← cat_mk, ← cat_mk, ← ByteArray.append_assoc]
          · have e' : ¬ (i : Int) < (bs.length : Int) := by omega
            have bx : byteF bs i = 0 := by unfold byteF; rw [List.getD_eq_getElem?_getD, List.getElem?_eq_none (by omega)]; rfl
            rw [bx] at NX
            clear bx
            go_wp2_with fail
            go_roundw
            case rel =>
              refine ⟨i + 1, by omega, by go_num, ?_, by first | rfl | trivial⟩
              rw [NX.out, ← cat_mk, ← cat_mk, ← ByteArray.append_assoc]; rfl
            case measure => simp [intOf]; omega
        · have ei : i = n := by omega
          have eX : backL (byteF bs) (ts.take i) 0 = backL (byteF bs) ts 0 := by rw [ei, List.take_of_length_le (by have := HN.out.1; omega)]
          rw [eX]
          clear ei eX
          have sz : (backL (byteF bs) ts 0).length ≤ 5400 := by omega
          have nn : ((n : Int) != (n : Int)) = false := by simp
          have cb' := fun w => cb w
          generalize backL (byteF bs) ts 0 = X at *
          go_wp2_with (go_at_call 9; refine (cb' _).mono ?_; rintro e w3 ⟨⟨a3, cap3, rfl, tk3⟩, hb3⟩; clear cb')
          have T3 : Hid (us = [] ∨ ∃ b off, a3 = some ⟨b, off, none⟩ ∧ b < w3.heap.size ∧ ∀ (j : Nat) (t : Tok), us[j]? = some t → w3.cell? ⟨b, off + j * 4, none⟩ = some (.int .i64 t.kind) ∧ w3.cell? ⟨b, off + j * 4 + 1, none⟩ = some (.string ⟨t.text.toArray⟩) ∧ w3.cell? ⟨b, off + j * 4 + 2, none⟩ = some (.int .i64 t.val) ∧ w3.cell? ⟨b, off + j * 4 + 3, none⟩ = some (.int .i64 t.pos)) := by
            obtain ⟨_, a', cap', ea, _, _, htk⟩ := tk3
            simp only [Value.slice.injEq] at ea
            rw [ea.1]; exact htk
          have B3 : Hid (Below wr.heap.size wr w3) := hb3
          clear tk3 hb3
          obtain ⟨W2, eW⟩ : ∃ W2 : World, W2 = wr := ⟨_, rfl⟩
          subst eW
          go_loopw [14] (fun t ws => ∃ (j : Nat), j ≤ n ∧ t = .int .i64 j ∧ Below w3.heap.size w3 ws) (fun t _ => n - (intOf t).toNat)
          case atStart => exact ⟨0, Nat.zero_le _, rfl, Below.refl _ _⟩
          case round =>
            obtain ⟨j, hj, rfl, hbw⟩ := hrel
            by_cases d2 : j < n
            · have d2' : (j : Int) < (n : Int) := by omega
              rcases TK with TK | ⟨bk, off, rfl, hbk, hck⟩
              · have := HN.out.1; rw [TK] at this; simp at this; omega
              rcases T3 with T3 | ⟨bk3, off3, rfl, hbk3, hck3⟩
              · have := HN.out.2; rw [T3] at this; simp at this; omega
              obtain ⟨t, ht⟩ : ∃ t, ts[j]? = some t := ⟨_, List.getElem?_eq_getElem (by have := HN.out.1; omega)⟩
              obtain ⟨u, hu⟩ : ∃ u, us[j]? = some u := ⟨_, List.getElem?_eq_getElem (by have := HN.out.2; omega)⟩
              obtain ⟨e1, e2, e3⟩ := U.out.2 j t u ht hu
              obtain ⟨x0, x1, x2, _⟩ := hck j t ht
              obtain ⟨y0, y1, y2, _⟩ := hck3 j u hu
              rw [e1] at y0; rw [e2] at y1; rw [e3] at y2
              have hbk' : bk < w3.heap.size := Nat.lt_of_lt_of_le hbk B3.out.size
              have X0 := (hbw.cell (p := ⟨bk, off + j * 4, none⟩) hbk').trans ((B3.out.cell (p := ⟨bk, off + j * 4, none⟩) hbk).trans x0)
              have X1 := (hbw.cell (p := ⟨bk, off + j * 4 + 1, none⟩) hbk').trans ((B3.out.cell (p := ⟨bk, off + j * 4 + 1, none⟩) hbk).trans x1)
              have X2 := (hbw.cell (p := ⟨bk, off + j * 4 + 2, none⟩) hbk').trans ((B3.out.cell (p := ⟨bk, off + j * 4 + 2, none⟩) hbk).trans x2)
              have Y0 := (hbw.cell (p := ⟨bk3, off3 + j * 4, none⟩) hbk3).trans y0
              have Y1 := (hbw.cell (p := ⟨bk3, off3 + j * 4 + 1, none⟩) hbk3).trans y1
              have Y2 := (hbw.cell (p := ⟨bk3, off3 + j * 4 + 2, none⟩) hbk3).trans y2
              clear x0 x1 x2 y0 y1 y2 hck hck3 ht hu e1 e2 e3
              generalize t.kind = k0 at *
              generalize t.text = k1 at *
              generalize t.val = k2 at *
              have q0 : ((k0 : Int) != (k0 : Int)) = false := by simp
              have q1 : ((⟨k1.toArray⟩ : ByteArray).toList != (⟨k1.toArray⟩ : ByteArray).toList) = false := by simp
              have q2 : ((k2 : Int) != (k2 : Int)) = false := by simp
              go_wp2_with fail
              go_quiet (fail)
              go_wp2_with fail
              go_roundw
              case rel => exact ⟨j + 1, by omega, by go_num, below_drewN hbw _⟩
              case measure => simp [intOf]; omega
            · have d2' : ¬ (j : Int) < (n : Int) := by omega
              go_wp2_with fail
              go_ret
              exact ⟨rfl, bt (bt B2.out B3.out) hbw⟩
end Go.Proofs.YtjhjfmmhcpmcbaaDoor
