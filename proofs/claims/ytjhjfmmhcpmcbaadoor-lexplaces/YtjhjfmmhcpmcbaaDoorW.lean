/-
  The walk of the statement on the places of words.
-/
import Derived.Test.YtjhjfmmhcpmcbaaDoorR
namespace Go.Proofs.YtjhjfmmhcpmcbaaDoor
open Go.RowKit

theorem int_ne {c : UInt8} {k : Nat} (h : ¬ c.toNat = k) : (((c.toNat : Nat) : Int) == (k : Int)) = false := by rw [beq_eq_false_iff_ne]; omega
theorem int_eq {c : UInt8} {k : Nat} (h : c.toNat = k) : (((c.toNat : Nat) : Int) == (k : Int)) = true := by rw [beq_iff_eq]; omega

set_option maxRecDepth 100000 in
set_option maxHeartbeats 100000000 in
theorem lexPlaces_walk (C : LexC) (s : ByteArray) (w : World) (hs : s.size ≤ 140737488351232) :
    Calls Tryd.prog 4 #[.string s] w fun e w' => e = .returned (.bool true) ∧ Below w.heap.size w w' := by
  have ca := tokens_at C s
  cases hR : lexT s.data.toList with
  | err c p =>
    rw [hR] at ca
    have hc := lexT_err hR
    rw [← Lib.size_eq] at hc
    have c0 : ((c : Int) != 0) = true := by rw [bne_iff_ne]; omega
    have p1 : (p : Int) ≤ (s.size : Int) := by omega
    clear hc hR
    have ca' : ∀ w, Calls Tryd.prog 9 #[.string s] w fun e w' => (∃ a cap, e = .returned (.tuple #[.slice a 0 cap, .int .i64 (c : Int), .int .i64 (p : Int)])) ∧ Below w.heap.size w w' := fun w =>
      (ca w hs).mono fun e w' ⟨⟨v, he, hv⟩, hb⟩ => by
        obtain ⟨_, a, cap, rfl, _⟩ := hv
        exact ⟨⟨a, cap, he⟩, hb⟩
    clear ca
    go_enter Tryd.func4, Tryd.ntmps4
    go_wp2_with (first | (go_at_call 8; refine (awake_walk C _).mono ?_; rintro e w1 ⟨rfl, hb1⟩) | (go_at_call 9; refine (ca' _).mono ?_; rintro e w2 ⟨⟨a, cap, rfl⟩, hb2⟩))
    go_ret
    exact ⟨ret_bool (by simp), bt hb1 hb2⟩
  | ok ts =>
    rw [hR] at ca
    have ca' : ∀ w, Calls Tryd.prog 9 #[.string s] w fun e w' => (∃ a cap, e = .returned (.tuple #[.slice a ts.length cap, .int .i64 0, .int .i64 0]) ∧ TokSl w' (.slice a ts.length cap) ts) ∧ Below w.heap.size w w' := fun w =>
      (ca w hs).mono fun e w' ⟨⟨v, he, hv⟩, hb⟩ => by
        obtain ⟨l, a, cap, rfl, h⟩ := hv
        exact ⟨⟨a, cap, he, l, a, cap, rfl, h⟩, hb⟩
    have GP : Hid (Gaps false s.data.toList 0 ts ∧ s.data.toList.length ≤ 8192) := by
      unfold lexT at hR
      by_cases hl : 8192 < s.data.toList.length
      · rw [if_pos hl] at hR; cases hR
      · rw [if_neg hl] at hR
        exact ⟨lexA_gaps _ _ 0 0 ts false (Nat.le_refl _) hR (fun h => by cases h), by omega⟩
    have s8 : s.size ≤ 8192 := by have := GP.out.2; rw [← Lib.size_eq] at this; exact this
    have HS : Hid (s.data.toList.length = s.size) := (Lib.size_eq s).symm
    obtain ⟨n, hn⟩ : ∃ n, ts.length = n := ⟨_, rfl⟩
    have HN : Hid (ts.length = n) := hn
    rw [hn] at ca'
    clear hn ca hR
    go_enter Tryd.func4, Tryd.ntmps4
    go_wp2_with (first | (go_at_call 8; refine (awake_walk C _).mono ?_; rintro e w1 ⟨rfl, hb1⟩) | (go_at_call 9; refine (ca' _).mono ?_; rintro e w2 ⟨⟨a, cap, rfl, tk⟩, hb2⟩; clear ca'))
    have n15 : n ≤ 1500 := by have := tk.1; have := HN.out; omega
    have TK : Hid (ts = [] ∨ ∃ b off, a = some ⟨b, off, none⟩ ∧ b < w2.heap.size ∧ ∀ (j : Nat) (t : Tok), ts[j]? = some t → w2.cell? ⟨b, off + j * 4 + 1, none⟩ = some (.string ⟨t.text.toArray⟩) ∧ w2.cell? ⟨b, off + j * 4 + 3, none⟩ = some (.int .i64 t.pos)) := by
      obtain ⟨_, a', cap', ea, _, _, htk⟩ := tk
      simp only [Value.slice.injEq] at ea
      rw [ea.1]
      exact htk.imp id fun ⟨b, off, h1, h2, h3⟩ => ⟨b, off, h1, h2, fun j t hj => ⟨(h3 j t hj).2.1, (h3 j t hj).2.2.2⟩⟩
    have B2 : Hid (Below w.heap.size w w2) := bt hb1 hb2
    clear tk hb1 hb2
    go_loopw [6, 7] (fun te ti wr => ∃ (i e : Nat), i ≤ n + 1 ∧ e ≤ s.size ∧ te = .int .i64 e ∧ ti = .int .i64 i ∧ Hid (i ≤ n → Gaps false (s.data.toList.drop e) e (ts.drop i)) ∧ Below w2.heap.size w2 wr) (fun _ ti _ => n + 1 - (intOf ti).toNat)
    case atStart => exact ⟨0, 0, by omega, by omega, rfl, rfl, fun _ => GP.out.1, Below.refl _ _⟩
    case round =>
      obtain ⟨i, e, hi, he, rfl, rfl, hg, hb⟩ := hrel
      by_cases c : i ≤ n
      · have c' : (i : Int) ≤ (n : Int) := by omega
        have GG := hg.out c
        by_cases c2 : i < n
        · have c2' : (i : Int) < (n : Int) := by omega
          rcases TK with TK | ⟨bk, off, rfl, hbk, hck⟩
          · have := HN.out; rw [TK] at this; simp at this; omega
          obtain ⟨t, ht⟩ : ∃ t, ts[i]? = some t := ⟨_, List.getElem?_eq_getElem (by have := HN.out; omega)⟩
          have hd : ts.drop i = t :: ts.drop (i + 1) := by
            obtain ⟨hi', ee⟩ := List.getElem?_eq_some_iff.1 ht
            rw [List.drop_eq_getElem_cons hi', ee]
          rw [hd] at GG
          obtain ⟨m, g1, g2, g3, g4, g5, g6⟩ := GG
          obtain ⟨x1, x3⟩ := hck i t ht
          have X1 : wr.cell? ⟨bk, off + i * 4 + 1, none⟩ = some (.string ⟨t.text.toArray⟩) := (hb.cell (p := ⟨bk, _, none⟩) hbk).trans x1
          have X3 : wr.cell? ⟨bk, off + i * 4 + 3, none⟩ = some (.int .i64 t.pos) := (hb.cell (p := ⟨bk, _, none⟩) hbk).trans x3
          rw [List.length_drop, HS.out] at g2
          obtain ⟨nx, hnx⟩ : ∃ nx, t.pos = nx := ⟨_, rfl⟩
          obtain ⟨tx, htx⟩ : ∃ tx, t.text = tx := ⟨_, rfl⟩
          rw [hnx] at X3 g1 g6
          rw [htx] at X1 g2 g4 g5 g6
          obtain ⟨fin, hfin⟩ : ∃ fin, fin = false := ⟨_, rfl⟩
          have G0 : Hid (gapF false ((s.data.toList.drop e).take (nx - e)) = some fin) := by rw [hfin, show nx - e = m by omega]; exact g3
          have TX : Hid ((s.extract nx (nx + tx.length)).toList = tx) := by
            show _ = _
            rw [Lib.extract_toList, show nx + tx.length - nx = tx.length by omega, g1, ← List.drop_drop]; exact g4.symm
          have GN : Hid (Gaps false (s.data.toList.drop (nx + tx.length)) (nx + tx.length) (ts.drop (i + 1))) := by
            rw [List.drop_drop, show e + (m + tx.length) = nx + tx.length by omega] at g6; exact g6
          have hen : e ≤ nx := by omega
          have hns : nx + tx.length ≤ s.size := by omega
          have FIN : Hid (fin = false) := hfin
          have l1 : ¬ (nx : Int) < (e : Int) := by omega
          have l2 : ¬ (s.size : Int) < (nx : Int) := by omega
          clear x1 x3 hck ht hd g1 g2 g3 g4 g6 hnx htx hfin hg
          have g5' : 1 ≤ tx.length := g5
          clear g5
          go_wp2_with fail
          go_loopw [9, 10] (fun bb t ws => ∃ (k : Nat) (r : Bool), e ≤ k ∧ k ≤ nx ∧ bb = .bool r ∧ t = .int .i64 k ∧ Hid (gapF r ((s.data.toList.drop k).take (nx - k)) = some fin) ∧ ws = wr) (fun _ t _ => nx - (intOf t).toNat)
          case atStart => exact ⟨e, false, Nat.le_refl _, hen, rfl, by go_num, G0, rfl⟩
          case round =>
            obtain ⟨k, r, hk1, hk2, rfl, rfl, hg, rfl⟩ := hrel
            by_cases d : k < nx
            · have d' : (k : Int) < (nx : Int) := by omega
              have ks : (k : Int) < (s.size : Int) := by omega
              obtain ⟨ch, hch, hcc⟩ := byte_at s (show k < s.size by omega)
              have GS : Hid (gapF r (ch :: (s.data.toList.drop (k + 1)).take (nx - (k + 1))) = some fin) := by
                have := hg.out
                rw [drop_at hcc, show nx - k = (nx - (k + 1)) + 1 by omega, List.take_succ_cons] at this
                exact this
              clear hcc hg
              by_cases hc : ch.toNat = 35
              · cases r
                · have z35 : (((ch.toNat : Nat) : Int) == 35) = true := int_eq (k := 35) (by omega)
                  have z10 : (((ch.toNat : Nat) : Int) == 10) = false := int_ne (k := 10) (by omega)
                  have G2 : Hid (gapF true ((s.data.toList.drop (k + 1)).take (nx - (k + 1))) = some fin) := by
                    show gapF _ _ = _
                    have := GS.out
                    unfold gapF at this
                    rw [if_neg (by simp [blank, hc])] at this
                    simpa [hc] using this
                  clear hc GS
                  go_wp2_with fail
                  go_roundw
                  case rel => exact ⟨k + 1, true, by omega, by omega, rfl, by go_num, G2, by first | rfl | trivial⟩
                  case measure => simp [intOf]; omega
                · have z35 : (((ch.toNat : Nat) : Int) == 35) = true := int_eq (k := 35) (by omega)
                  have z10 : (((ch.toNat : Nat) : Int) == 10) = false := int_ne (k := 10) (by omega)
                  have G2 : Hid (gapF true ((s.data.toList.drop (k + 1)).take (nx - (k + 1))) = some fin) := by
                    show gapF _ _ = _
                    have := GS.out
                    unfold gapF at this
                    rw [if_neg (by simp [blank, hc])] at this
                    simpa [hc] using this
                  clear hc GS
                  go_wp2_with fail
                  go_roundw
                  case rel => exact ⟨k + 1, true, by omega, by omega, rfl, by go_num, G2, by first | rfl | trivial⟩
                  case measure => simp [intOf]; omega
              · have n35 := hc
                clear hc
                cases r
                · have hb : blank ch = true := by
                    have := GS.out
                    unfold gapF at this
                    cases hbl : blank ch
                    · rw [if_pos (by simp [n35, hbl])] at this; cases this
                    · rfl
                  unfold blank at hb
                  simp only [Bool.or_eq_true, decide_eq_true_iff] at hb
                  by_cases hc : ch.toNat = 32
                  · clear hb n35
                    have z35 : (((ch.toNat : Nat) : Int) == 35) = false := int_ne (k := 35) (by omega)
                    have z10 : (((ch.toNat : Nat) : Int) == 10) = false := int_ne (k := 10) (by omega)
                    have y32 : (((ch.toNat : Nat) : Int) != 32) = false := by rw [bne, show (((ch.toNat : Nat) : Int) == 32) = true from int_eq (k := 32) (by omega)]; rfl
                    have G2 : Hid (gapF false ((s.data.toList.drop (k + 1)).take (nx - (k + 1))) = some fin) := by
                      show gapF _ _ = _
                      have := GS.out
                      unfold gapF at this
                      rw [if_neg (by simp [blank, hc])] at this
                      simpa [hc] using this
                    clear hc GS
                    go_wp2_with fail
                    go_roundw
                    case rel => exact ⟨k + 1, false, by omega, by omega, rfl, by go_num, G2, by first | rfl | trivial⟩
                    case measure => simp [intOf]; omega
                  · by_cases hc9 : ch.toNat = 9
                    · have e9 := hc9
                      clear hc9 hc hb n35
                      have hc := e9
                      clear e9
                      have z35 : (((ch.toNat : Nat) : Int) == 35) = false := int_ne (k := 35) (by omega)
                      have z10 : (((ch.toNat : Nat) : Int) == 10) = false := int_ne (k := 10) (by omega)
                      have y32 : (((ch.toNat : Nat) : Int) != 32) = true := by rw [bne, show (((ch.toNat : Nat) : Int) == 32) = false from int_ne (k := 32) (by omega)]; rfl
                      have y9 : (((ch.toNat : Nat) : Int) != 9) = false := by rw [bne, show (((ch.toNat : Nat) : Int) == 9) = true from int_eq (k := 9) (by omega)]; rfl
                      have G2 : Hid (gapF false ((s.data.toList.drop (k + 1)).take (nx - (k + 1))) = some fin) := by
                        show gapF _ _ = _
                        have := GS.out
                        unfold gapF at this
                        rw [if_neg (by simp [blank, hc])] at this
                        simpa [hc] using this
                      clear hc GS
                      go_wp2_with fail
                      go_roundw
                      case rel => exact ⟨k + 1, false, by omega, by omega, rfl, by go_num, G2, by first | rfl | trivial⟩
                      case measure => simp [intOf]; omega
                    · by_cases hc10 : ch.toNat = 10
                      · have e10 := hc10
                        clear hc10 hc9 hc hb n35
                        have hc := e10
                        clear e10
                        have z35 : (((ch.toNat : Nat) : Int) == 35) = false := int_ne (k := 35) (by omega)
                        have z10 : (((ch.toNat : Nat) : Int) == 10) = true := int_eq (k := 10) (by omega)
                        have y32 : (((ch.toNat : Nat) : Int) != 32) = true := by rw [bne, show (((ch.toNat : Nat) : Int) == 32) = false from int_ne (k := 32) (by omega)]; rfl
                        have y9 : (((ch.toNat : Nat) : Int) != 9) = true := by rw [bne, show (((ch.toNat : Nat) : Int) == 9) = false from int_ne (k := 9) (by omega)]; rfl
                        have y10 : (((ch.toNat : Nat) : Int) != 10) = false := by rw [bne, show (((ch.toNat : Nat) : Int) == 10) = true from int_eq (k := 10) (by omega)]; rfl
                        have G2 : Hid (gapF false ((s.data.toList.drop (k + 1)).take (nx - (k + 1))) = some fin) := by
                          show gapF _ _ = _
                          have := GS.out
                          unfold gapF at this
                          rw [if_neg (by simp [blank, hc])] at this
                          simpa [hc] using this
                        clear hc GS
                        go_wp2_with fail
                        go_roundw
                        case rel => exact ⟨k + 1, false, by omega, by omega, rfl, by go_num, G2, by first | rfl | trivial⟩
                        case measure => simp [intOf]; omega
                      · have e13 : ch.toNat = 13 := by omega
                        clear hc10 hc9 hc hb n35
                        have hc := e13
                        clear e13
                        have z35 : (((ch.toNat : Nat) : Int) == 35) = false := int_ne (k := 35) (by omega)
                        have z10 : (((ch.toNat : Nat) : Int) == 10) = false := int_ne (k := 10) (by omega)
                        have y32 : (((ch.toNat : Nat) : Int) != 32) = true := by rw [bne, show (((ch.toNat : Nat) : Int) == 32) = false from int_ne (k := 32) (by omega)]; rfl
                        have y9 : (((ch.toNat : Nat) : Int) != 9) = true := by rw [bne, show (((ch.toNat : Nat) : Int) == 9) = false from int_ne (k := 9) (by omega)]; rfl
                        have y10 : (((ch.toNat : Nat) : Int) != 10) = true := by rw [bne, show (((ch.toNat : Nat) : Int) == 10) = false from int_ne (k := 10) (by omega)]; rfl
                        have y13 : (((ch.toNat : Nat) : Int) != 13) = false := by rw [bne, show (((ch.toNat : Nat) : Int) == 13) = true from int_eq (k := 13) (by omega)]; rfl
                        have G2 : Hid (gapF false ((s.data.toList.drop (k + 1)).take (nx - (k + 1))) = some fin) := by
                          show gapF _ _ = _
                          have := GS.out
                          unfold gapF at this
                          rw [if_neg (by simp [blank, hc])] at this
                          simpa [hc] using this
                        clear hc GS
                        go_wp2_with fail
                        go_roundw
                        case rel => exact ⟨k + 1, false, by omega, by omega, rfl, by go_num, G2, by first | rfl | trivial⟩
                        case measure => simp [intOf]; omega
                · by_cases hc : ch.toNat = 10
                  · clear n35
                    have z35 : (((ch.toNat : Nat) : Int) == 35) = false := int_ne (k := 35) (by omega)
                    have z10 : (((ch.toNat : Nat) : Int) == 10) = true := int_eq (k := 10) (by omega)
                    have G2 : Hid (gapF false ((s.data.toList.drop (k + 1)).take (nx - (k + 1))) = some fin) := by
                      show gapF _ _ = _
                      have := GS.out
                      unfold gapF at this
                      rw [if_neg (by simp [blank, hc])] at this
                      simpa [hc] using this
                    clear hc GS
                    go_wp2_with fail
                    go_roundw
                    case rel => exact ⟨k + 1, false, by omega, by omega, rfl, by go_num, G2, by first | rfl | trivial⟩
                    case measure => simp [intOf]; omega
                  · have h10 := hc
                    clear hc
                    have z35 : (((ch.toNat : Nat) : Int) == 35) = false := int_ne (k := 35) (by omega)
                    have z10 : (((ch.toNat : Nat) : Int) == 10) = false := int_ne (k := 10) (by omega)
                    have G2 : Hid (gapF true ((s.data.toList.drop (k + 1)).take (nx - (k + 1))) = some fin) := by
                      show gapF _ _ = _
                      have := GS.out
                      unfold gapF at this
                      rw [if_neg (by simp), if_neg h10] at this
                      simpa using this
                    clear h10 GS n35
                    go_wp2_with fail
                    go_roundw
                    case rel => exact ⟨k + 1, true, by omega, by omega, rfl, by go_num, G2, by first | rfl | trivial⟩
                    case measure => simp [intOf]; omega
            · have d' : ¬ (k : Int) < (nx : Int) := by omega
              have kn : k = nx := by omega
              have rf : r = fin := by
                have := hg.out
                rw [kn, Nat.sub_self, List.take_zero] at this
                exact Option.some.inj this
              subst rf
              clear kn hg G0
              have rf : r = false := FIN.out
              subst rf
              have g1 : ((tx.length : Int) == 0) = false := by rw [beq_eq_false_iff_ne]; omega
              have g2 : decide ((s.size : Int) - (nx : Int) < (tx.length : Int)) = false := by rw [decide_eq_false_iff_not]; omega
              have g3 : ((s.extract nx (nx + tx.length)).toList == tx) = true := by rw [TX.out]; simp
              have b1 : (0 : Int) ≤ (nx : Int) := by omega
              have b2 : (nx : Int) + (tx.length : Int) ≤ (s.size : Int) := by omega
              go_wp2_with fail
              go_quiet (fail)
              go_wp2_with fail
              exact ⟨⟨i + 1, nx + tx.length, by omega, by omega, by go_num, by go_num, fun _ => GN.out, below_drewN hb _⟩, by simp [intOf]; omega⟩
        · have c2' : ¬ (i : Int) < (n : Int) := by omega
          have ei : i = n := by omega
          rw [show ts.drop i = [] from List.drop_eq_nil_of_le (by have := HN.out; omega)] at GG
          obtain ⟨fin, g3⟩ := GG
          have G0 : Hid (gapF false ((s.data.toList.drop e).take (s.size - e)) = some fin) := by
            rw [List.take_of_length_le (by rw [List.length_drop, HS.out]; omega)]; exact g3
          have hen : e ≤ s.size := he
          have l1 : ¬ (s.size : Int) < (e : Int) := by omega
          clear g3 hg ei
          go_wp2_with fail
          go_loopw [9, 10] (fun bb t ws => ∃ (k : Nat) (r : Bool), e ≤ k ∧ k ≤ s.size ∧ bb = .bool r ∧ t = .int .i64 k ∧ Hid (gapF r ((s.data.toList.drop k).take (s.size - k)) = some fin) ∧ ws = wr) (fun _ t _ => s.size - (intOf t).toNat)
          case atStart => exact ⟨e, false, Nat.le_refl _, hen, rfl, by go_num, G0, rfl⟩
          case round =>
            obtain ⟨k, r, hk1, hk2, rfl, rfl, hg, rfl⟩ := hrel
            by_cases d : k < s.size
            · have d' : (k : Int) < (s.size : Int) := by omega
              have ks : (k : Int) < (s.size : Int) := by omega
              obtain ⟨ch, hch, hcc⟩ := byte_at s (show k < s.size by omega)
              have GS : Hid (gapF r (ch :: (s.data.toList.drop (k + 1)).take (s.size - (k + 1))) = some fin) := by
                have := hg.out
                rw [drop_at hcc, show s.size - k = (s.size - (k + 1)) + 1 by omega, List.take_succ_cons] at this
                exact this
              clear hcc hg
              by_cases hc : ch.toNat = 35
              · cases r
                · have z35 : (((ch.toNat : Nat) : Int) == 35) = true := int_eq (k := 35) (by omega)
                  have z10 : (((ch.toNat : Nat) : Int) == 10) = false := int_ne (k := 10) (by omega)
                  have G2 : Hid (gapF true ((s.data.toList.drop (k + 1)).take (s.size - (k + 1))) = some fin) := by
                    show gapF _ _ = _
                    have := GS.out
                    unfold gapF at this
                    rw [if_neg (by simp [blank, hc])] at this
                    simpa [hc] using this
                  clear hc GS
                  go_wp2_with fail
                  go_roundw
                  case rel => exact ⟨k + 1, true, by omega, by omega, rfl, by go_num, G2, by first | rfl | trivial⟩
                  case measure => simp [intOf]; omega
                · have z35 : (((ch.toNat : Nat) : Int) == 35) = true := int_eq (k := 35) (by omega)
                  have z10 : (((ch.toNat : Nat) : Int) == 10) = false := int_ne (k := 10) (by omega)
                  have G2 : Hid (gapF true ((s.data.toList.drop (k + 1)).take (s.size - (k + 1))) = some fin) := by
                    show gapF _ _ = _
                    have := GS.out
                    unfold gapF at this
                    rw [if_neg (by simp [blank, hc])] at this
                    simpa [hc] using this
                  clear hc GS
                  go_wp2_with fail
                  go_roundw
                  case rel => exact ⟨k + 1, true, by omega, by omega, rfl, by go_num, G2, by first | rfl | trivial⟩
                  case measure => simp [intOf]; omega
              · have n35 := hc
                clear hc
                cases r
                · have hb : blank ch = true := by
                    have := GS.out
                    unfold gapF at this
                    cases hbl : blank ch
                    · rw [if_pos (by simp [n35, hbl])] at this; cases this
                    · rfl
                  unfold blank at hb
                  simp only [Bool.or_eq_true, decide_eq_true_iff] at hb
                  by_cases hc : ch.toNat = 32
                  · clear hb n35
                    have z35 : (((ch.toNat : Nat) : Int) == 35) = false := int_ne (k := 35) (by omega)
                    have z10 : (((ch.toNat : Nat) : Int) == 10) = false := int_ne (k := 10) (by omega)
                    have y32 : (((ch.toNat : Nat) : Int) != 32) = false := by rw [bne, show (((ch.toNat : Nat) : Int) == 32) = true from int_eq (k := 32) (by omega)]; rfl
                    have G2 : Hid (gapF false ((s.data.toList.drop (k + 1)).take (s.size - (k + 1))) = some fin) := by
                      show gapF _ _ = _
                      have := GS.out
                      unfold gapF at this
                      rw [if_neg (by simp [blank, hc])] at this
                      simpa [hc] using this
                    clear hc GS
                    go_wp2_with fail
                    go_roundw
                    case rel => exact ⟨k + 1, false, by omega, by omega, rfl, by go_num, G2, by first | rfl | trivial⟩
                    case measure => simp [intOf]; omega
                  · by_cases hc9 : ch.toNat = 9
                    · have e9 := hc9
                      clear hc9 hc hb n35
                      have hc := e9
                      clear e9
                      have z35 : (((ch.toNat : Nat) : Int) == 35) = false := int_ne (k := 35) (by omega)
                      have z10 : (((ch.toNat : Nat) : Int) == 10) = false := int_ne (k := 10) (by omega)
                      have y32 : (((ch.toNat : Nat) : Int) != 32) = true := by rw [bne, show (((ch.toNat : Nat) : Int) == 32) = false from int_ne (k := 32) (by omega)]; rfl
                      have y9 : (((ch.toNat : Nat) : Int) != 9) = false := by rw [bne, show (((ch.toNat : Nat) : Int) == 9) = true from int_eq (k := 9) (by omega)]; rfl
                      have G2 : Hid (gapF false ((s.data.toList.drop (k + 1)).take (s.size - (k + 1))) = some fin) := by
                        show gapF _ _ = _
                        have := GS.out
                        unfold gapF at this
                        rw [if_neg (by simp [blank, hc])] at this
                        simpa [hc] using this
                      clear hc GS
                      go_wp2_with fail
                      go_roundw
                      case rel => exact ⟨k + 1, false, by omega, by omega, rfl, by go_num, G2, by first | rfl | trivial⟩
                      case measure => simp [intOf]; omega
                    · by_cases hc10 : ch.toNat = 10
                      · have e10 := hc10
                        clear hc10 hc9 hc hb n35
                        have hc := e10
                        clear e10
                        have z35 : (((ch.toNat : Nat) : Int) == 35) = false := int_ne (k := 35) (by omega)
                        have z10 : (((ch.toNat : Nat) : Int) == 10) = true := int_eq (k := 10) (by omega)
                        have y32 : (((ch.toNat : Nat) : Int) != 32) = true := by rw [bne, show (((ch.toNat : Nat) : Int) == 32) = false from int_ne (k := 32) (by omega)]; rfl
                        have y9 : (((ch.toNat : Nat) : Int) != 9) = true := by rw [bne, show (((ch.toNat : Nat) : Int) == 9) = false from int_ne (k := 9) (by omega)]; rfl
                        have y10 : (((ch.toNat : Nat) : Int) != 10) = false := by rw [bne, show (((ch.toNat : Nat) : Int) == 10) = true from int_eq (k := 10) (by omega)]; rfl
                        have G2 : Hid (gapF false ((s.data.toList.drop (k + 1)).take (s.size - (k + 1))) = some fin) := by
                          show gapF _ _ = _
                          have := GS.out
                          unfold gapF at this
                          rw [if_neg (by simp [blank, hc])] at this
                          simpa [hc] using this
                        clear hc GS
                        go_wp2_with fail
                        go_roundw
                        case rel => exact ⟨k + 1, false, by omega, by omega, rfl, by go_num, G2, by first | rfl | trivial⟩
                        case measure => simp [intOf]; omega
                      · have e13 : ch.toNat = 13 := by omega
                        clear hc10 hc9 hc hb n35
                        have hc := e13
                        clear e13
                        have z35 : (((ch.toNat : Nat) : Int) == 35) = false := int_ne (k := 35) (by omega)
                        have z10 : (((ch.toNat : Nat) : Int) == 10) = false := int_ne (k := 10) (by omega)
                        have y32 : (((ch.toNat : Nat) : Int) != 32) = true := by rw [bne, show (((ch.toNat : Nat) : Int) == 32) = false from int_ne (k := 32) (by omega)]; rfl
                        have y9 : (((ch.toNat : Nat) : Int) != 9) = true := by rw [bne, show (((ch.toNat : Nat) : Int) == 9) = false from int_ne (k := 9) (by omega)]; rfl
                        have y10 : (((ch.toNat : Nat) : Int) != 10) = true := by rw [bne, show (((ch.toNat : Nat) : Int) == 10) = false from int_ne (k := 10) (by omega)]; rfl
                        have y13 : (((ch.toNat : Nat) : Int) != 13) = false := by rw [bne, show (((ch.toNat : Nat) : Int) == 13) = true from int_eq (k := 13) (by omega)]; rfl
                        have G2 : Hid (gapF false ((s.data.toList.drop (k + 1)).take (s.size - (k + 1))) = some fin) := by
                          show gapF _ _ = _
                          have := GS.out
                          unfold gapF at this
                          rw [if_neg (by simp [blank, hc])] at this
                          simpa [hc] using this
                        clear hc GS
                        go_wp2_with fail
                        go_roundw
                        case rel => exact ⟨k + 1, false, by omega, by omega, rfl, by go_num, G2, by first | rfl | trivial⟩
                        case measure => simp [intOf]; omega
                · by_cases hc : ch.toNat = 10
                  · clear n35
                    have z35 : (((ch.toNat : Nat) : Int) == 35) = false := int_ne (k := 35) (by omega)
                    have z10 : (((ch.toNat : Nat) : Int) == 10) = true := int_eq (k := 10) (by omega)
                    have G2 : Hid (gapF false ((s.data.toList.drop (k + 1)).take (s.size - (k + 1))) = some fin) := by
                      show gapF _ _ = _
                      have := GS.out
                      unfold gapF at this
                      rw [if_neg (by simp [blank, hc])] at this
                      simpa [hc] using this
                    clear hc GS
                    go_wp2_with fail
                    go_roundw
                    case rel => exact ⟨k + 1, false, by omega, by omega, rfl, by go_num, G2, by first | rfl | trivial⟩
                    case measure => simp [intOf]; omega
                  · have h10 := hc
                    clear hc
                    have z35 : (((ch.toNat : Nat) : Int) == 35) = false := int_ne (k := 35) (by omega)
                    have z10 : (((ch.toNat : Nat) : Int) == 10) = false := int_ne (k := 10) (by omega)
                    have G2 : Hid (gapF true ((s.data.toList.drop (k + 1)).take (s.size - (k + 1))) = some fin) := by
                      show gapF _ _ = _
                      have := GS.out
                      unfold gapF at this
                      rw [if_neg (by simp), if_neg h10] at this
                      simpa using this
                    clear h10 GS n35
                    go_wp2_with fail
                    go_roundw
                    case rel => exact ⟨k + 1, true, by omega, by omega, rfl, by go_num, G2, by first | rfl | trivial⟩
                    case measure => simp [intOf]; omega
            · have d' : ¬ (k : Int) < (s.size : Int) := by omega
              have kn : k = s.size := by omega
              have rf : r = fin := by
                have := hg.out
                rw [kn, Nat.sub_self, List.take_zero] at this
                exact Option.some.inj this
              subst rf
              clear kn hg G0
              cases r
              · go_wp2_with fail
                go_roundw
                case rel => exact ⟨i + 1, e, by omega, he, by go_num, by go_num, fun h => by omega, hb⟩
                case measure => simp [intOf]; omega
              · go_wp2_with fail
                go_roundw
                case rel => exact ⟨i + 1, e, by omega, he, by go_num, by go_num, fun h => by omega, hb⟩
                case measure => simp [intOf]; omega
      · have c' : ¬ (i : Int) ≤ (n : Int) := by omega
        go_wp2_with fail
        go_ret
        exact ⟨rfl, bt B2.out hb⟩
end Go.Proofs.YtjhjfmmhcpmcbaaDoor
