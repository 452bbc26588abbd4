/-
  The walk of the statement on texts that are cut.
-/
import Derived.Test.YtjhjfmmhcpmcbaaDoorR
import Derived.Deep.RegionWith
import Derived.BigRegion
namespace Go.Proofs.YtjhjfmmhcpmcbaaDoor
open Go.RowKit

theorem lexT_cut {l : List UInt8} {ts : List Tok} {n : Nat} {t : Tok} (h : lexT l = .ok ts) (ht : ts[n]? = some t) : t.pos + t.text.length ≤ l.length ∧ lexT (l.take (t.pos + t.text.length)) = .ok (ts.take (n + 1)) := by
  unfold lexT at h
  by_cases hl : 8192 < l.length
  · rw [if_pos hl] at h; cases h
  · rw [if_neg hl] at h
    have h' : lexA l 0 0 = .ok ts := h
    have hp := lexA_pos _ l 0 0 ts (Nat.le_refl _) h' t (List.mem_of_getElem? ht)
    have hc := lexA_cut _ l 0 0 ts n t (Nat.le_refl _) h' ht
    rw [Nat.sub_zero] at hc
    refine ⟨by omega, ?_⟩
    unfold lexT
    rw [if_neg (by rw [List.length_take]; omega)]
    exact hc

theorem cut_run (s : ByteArray) (p n : Nat) (h : p + n ≤ s.size) (w : World) : (Instr.slice 9 (.string s) none (some (.int .i64 ((p : Int) + (n : Int)))) none).run Tryd.prog w = .ok (.string (s.extract 0 (p + n))) w := by
  have h1 : (0 : Int) ≤ (p : Int) + (n : Int) := by omega
  have h2 : (p : Int) + (n : Int) ≤ (s.size : Int) := by omega
  have e : ((p : Int) + (n : Int)).toNat = p + n := by omega
  have ht := Tryd.underlying9
  simp only [Instr.slice]
  go_simp
set_option maxRecDepth 100000 in
set_option maxHeartbeats 8000000 in
theorem lexParts_walk (C : LexC) (s : ByteArray) (m : Int) (w : World) (hs : s.size ≤ 140737488351232) (hm : -9223372036854775808 ≤ m ∧ m ≤ 9223372036854775807) :
    Calls Tryd.prog 6 #[.string s, .int .i64 m] w fun e w' => e = .returned (.bool true) ∧ Below w.heap.size w w' := by
  have ca := tokens_at C s
  cases hR : lexT s.data.toList with
  | err c p =>
    rw [hR] at ca
    have hc := (lexT_err hR).1
    have c0 : ((c : Int) != 0) = true := by rw [bne_iff_ne]; omega
    clear hc hR
    have ca' : ∀ w, Calls Tryd.prog 9 #[.string s] w fun e w' => (∃ v, e = .returned (.tuple #[v, .int .i64 (c : Int), .int .i64 (p : Int)]) ∧ TokSl w' v []) ∧ Below w.heap.size w w' := fun w => ca w hs
    clear ca
    go_enter Tryd.func6, Tryd.ntmps6
    go_wp2_with (first | (go_at_call 8; refine (awake_walk C _).mono ?_; rintro e w1 ⟨rfl, hb1⟩) | (go_at_call 9; refine (ca' _).mono ?_; rintro e w2 ⟨⟨v, rfl, hv⟩, hb2⟩))
    go_ret
    exact ⟨rfl, bt hb1 hb2⟩
  | ok ts =>
    rw [hR] at ca
    have ca' : ∀ w, Calls Tryd.prog 9 #[.string s] w fun e w' => (∃ a cap, e = .returned (.tuple #[.slice a ts.length cap, .int .i64 0, .int .i64 0]) ∧ TokSl w' (.slice a ts.length cap) ts) ∧ Below w.heap.size w w' := fun w =>
      (ca w hs).mono fun e w' ⟨⟨v, he, hv⟩, hb⟩ => by
        obtain ⟨l, a, cap, rfl, h⟩ := hv
        exact ⟨⟨a, cap, he, l, a, cap, rfl, h⟩, hb⟩
    clear ca
    by_cases c1 : m < 0
    · have c1' : decide (m < 0) = true := by simpa using c1
      clear hR
      go_enter Tryd.func6, Tryd.ntmps6
      go_wp2_with (first | (go_at_call 8; refine (awake_walk C _).mono ?_; rintro e w1 ⟨rfl, hb1⟩) | (go_at_call 9; refine (ca' _).mono ?_; rintro e w2 ⟨⟨a, cap, rfl, tk⟩, hb2⟩))
      go_ret
      exact ⟨rfl, bt hb1 hb2⟩
    · obtain ⟨n, rfl⟩ := Int.eq_ofNat_of_zero_le (show 0 ≤ m by omega)
      by_cases c2 : ts.length ≤ n
      · have c2' : (ts.length : Int) ≤ (n : Int) := by omega
        clear hR
        go_enter Tryd.func6, Tryd.ntmps6
        go_wp2_with (first | (go_at_call 8; refine (awake_walk C _).mono ?_; rintro e w1 ⟨rfl, hb1⟩) | (go_at_call 9; refine (ca' _).mono ?_; rintro e w2 ⟨⟨a, cap, rfl, tk⟩, hb2⟩))
        go_ret
        exact ⟨rfl, bt hb1 hb2⟩
      · have c2' : ¬ (ts.length : Int) ≤ (n : Int) := by omega
        obtain ⟨t, ht⟩ : ∃ t, ts[n]? = some t := ⟨_, List.getElem?_eq_getElem (by omega)⟩
        obtain ⟨cl, hcut⟩ := lexT_cut hR ht
        rw [← Lib.size_eq] at cl
        have cb : ∀ w, Calls Tryd.prog 9 #[.string (s.extract 0 (t.pos + t.text.length))] w fun e w' => (∃ v, e = .returned (.tuple #[v, .int .i64 0, .int .i64 0]) ∧ TokSl w' v (ts.take (n + 1))) ∧ Below w.heap.size w w' := fun w => by
          have := tokens_at C (s.extract 0 (t.pos + t.text.length)) w (by rw [Lib.size_eq, Lib.extract_data, List.length_take]; omega)
          rw [Lib.extract_data, List.drop_zero, Nat.sub_zero, hcut] at this
          exact this
        have tz : (⟨t.text.toArray⟩ : ByteArray).size = t.text.length := by rw [Lib.size_eq]
        obtain ⟨N, hN⟩ : ∃ N, ts.length = N := ⟨_, rfl⟩
        have HN : Hid (ts.length = N) := hN
        have HT : Hid (ts[n]? = some t) := ht
        rw [hN] at ca' c2 c2'
        clear hN ht hR hcut
        have nn : (n : Int) < (N : Int) := by omega
        have wq : IntKind.i64.wrap ((t.pos : Int) + (t.text.length : Int)) = (t.pos : Int) + (t.text.length : Int) := by rw [IntKind.wrap_i64]; omega
        have te : ((t.pos : Int) + (t.text.length : Int)).toNat = t.pos + t.text.length := by omega
        have cl' : (t.pos : Int) + (t.text.length : Int) ≤ (s.size : Int) := by omega
        have cl0 : (0 : Int) ≤ (t.pos : Int) + (t.text.length : Int) := by omega
        go_enter Tryd.func6, Tryd.ntmps6
        go_wp2_with (first | (go_at_call 8; refine (awake_walk C _).mono ?_; rintro e w1 ⟨rfl, hb1⟩) | (go_at_call 9; refine (ca' _).mono ?_; rintro e w2 ⟨⟨a, cap, rfl, tk⟩, hb2⟩; clear ca'))
        obtain ⟨l15, a', cap', ea, gc, gm, htk⟩ := tk
        simp only [Value.slice.injEq] at ea
        obtain ⟨rfl, eN, rfl⟩ := ea
        rcases htk with htk | ⟨bk, off, rfl, hbk, hck⟩
        · have := HN.out; rw [htk] at this; simp at this; omega
        obtain ⟨_, k1, _, k3⟩ := hck n t HT.out
        have B2 : Hid (Below w.heap.size w w2) := bt hb1 hb2
        have TK : Hid (∀ (j : Nat) (t : Tok), ts[j]? = some t → w2.cell? ⟨bk, off + j * 4, none⟩ = some (.int .i64 t.kind) ∧ w2.cell? ⟨bk, off + j * 4 + 1, none⟩ = some (.string ⟨t.text.toArray⟩) ∧ w2.cell? ⟨bk, off + j * 4 + 2, none⟩ = some (.int .i64 t.val) ∧ w2.cell? ⟨bk, off + j * 4 + 3, none⟩ = some (.int .i64 t.pos)) := hck
        clear hck hb1 hb2 eN
        go_region_with (go_at_call 9; refine (cb _).mono ?_; rintro e w4 ⟨⟨v4, rfl, tk4⟩, hb4⟩)
        all_goals
          have S4 : TokSl w4 (.slice (some ⟨bk, off, none⟩) (n + 1) cap) (ts.take (n + 1)) := by
            have hl : (ts.take (n + 1)).length = n + 1 := by rw [List.length_take]; have := HN.out; omega
            refine ⟨by rw [hl]; have := HN.out; omega, _, cap, by rw [hl], by rw [hl]; have := HN.out; omega, gm, Or.inr ⟨bk, off, rfl, Nat.lt_of_lt_of_le hbk hb4.size, fun j x hx => ?_⟩⟩
            have hx' : ts[j]? = some x := by
              have hj : j < n + 1 := by
                have := (List.getElem?_eq_some_iff.1 hx).1
                omega
              rwa [List.getElem?_take_of_lt hj] at hx
            obtain ⟨y0, y1, y2, y3⟩ := TK.out j x hx'
            exact ⟨(hb4.cell (p := ⟨bk, _, none⟩) hbk).trans y0, (hb4.cell (p := ⟨bk, _, none⟩) hbk).trans y1, (hb4.cell (p := ⟨bk, _, none⟩) hbk).trans y2, (hb4.cell (p := ⟨bk, _, none⟩) hbk).trans y3⟩
          have nc : (n : Int) + 1 ≤ (cap : Int) := by have := HN.out; omega
          have n15 : n + 1 ≤ 1500 := by have := HN.out; omega
          go_wp2_with (go_at_call 11; refine (refSame_any _ _ _ _ _ tk4 S4).mono ?_; rintro e w5 ⟨⟨r, rfl, hr⟩, hb5⟩; obtain rfl : r = true := hr.2 rfl)
          go_ret
          exact ⟨rfl, bt (bt B2.out.drew hb4) hb5⟩
end Go.Proofs.YtjhjfmmhcpmcbaaDoor
