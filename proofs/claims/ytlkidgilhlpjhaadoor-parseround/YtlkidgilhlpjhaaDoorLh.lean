/-
  The walk of the program's reader of all words.
-/
import Derived.Test.YtlkidgilhlpjhaaDoorLl
import Derived.Test.YtlkidgilhlpjhaaDoorC
namespace Go.Proofs.YtlkidgilhlpjhaaDoor
open Go.RowKit

/-- How the reader of all words ends. -/
def WordsEnd (base : Nat) (w : World) (e : Ending) : Res → Prop
  | .ok ts => ∃ v, e = .returned v ∧ w.ownsRow base 29 4 v ts.length (cellsT ts)
  | .err c p => e = gaveUp c p
theorem bare_skip {l : List UInt8} {i n : Nat} {c : UInt8} (hc : l[i]? = some c) (hb : bare c = true) : stepL (l.drop i) ≠ .skip n := by
  obtain ⟨q, q1⟩ := bare_iff hb
  intro e
  cases q2 : small c
  · cases q3 : digit c
    · rw [sign_step hc q q1 q2 q3] at e; split at e <;> cases e
    · rw [step_num hc q q1 q2 q3] at e; split at e <;> cases e
  · rw [step_name hc q q1 q2] at e; split at e <;> cases e
theorem row_below {w w1 : World} {base e size n : Nat} {v : Value} {xs : List Value} (h : w.ownsRow base e size v n xs) (hb : Below w.heap.size w w1) : w1.ownsRow base e size v n xs := by
  obtain ⟨h1, h2⟩ := h
  refine ⟨h1, ?_⟩
  rcases h2 with h2 | ⟨g, cap, cur, e1, e2, e3, e4⟩
  · exact Or.inl h2
  · exact Or.inr ⟨g, cap, cur, e1, e2, (hb.block g (lt_of_block e3)).trans e3, e4⟩
theorem row_lt {w : World} {base e size n k : Nat} {v : Value} {xs : List Value} (h : w.ownsRow base e size v n xs) (hk : v.ownBlock = some k) : k < w.heap.size := by
  rcases h.2 with ⟨rfl, _⟩ | ⟨g, cap, cur, rfl, _, h3, _⟩
  · cases hk
  · simp only [Value.ownBlock, Option.some.injEq] at hk
    rw [← hk]; exact lt_of_block h3
set_option maxRecDepth 100000 in
set_option maxHeartbeats 20000000 in
theorem words_any (s : ByteArray) (w : World) (hs : s.size ≤ 8192) :
    Calls Tryd.prog 13 #[.string s] w fun e w' => WordsEnd w.heap.size w' e (lexA s.data.toList 0 0) ∧ Below w.heap.size w w' := by
  obtain ⟨i0, hi0, hz0, hz1, hz2⟩ := info32
  have HL : Hid (s.data.toList.length = s.size) := (Lib.size_eq s).symm
  have hs2 : s.size ≤ 140737488351232 := by omega
  go_enter Tryd.func13, Tryd.ntmps13
  go_wp2_with (go_at_call 17; refine (blanksEnd_any _ 0 (Nat.zero_le _) _ hs2).mono ?_; rintro e w0 ⟨⟨j0, rfl, _, hj0, hsk0, hba0⟩, rfl⟩)
  have HS0 : Hid (Skips s.data.toList 0 j0) := hsk0
  have HB0 : Hid (BareAt s.data.toList j0) := hba0
  clear hsk0 hba0
  go_loopw [3, 4] (fun v t wr => ∃ (i : Nat) (ts : List Tok), i ≤ s.size ∧ ts.length ≤ 1500 ∧ t = .int .i64 i ∧ Hid (wr.ownsRow w0.heap.size 29 4 v ts.length (cellsT ts)) ∧ Hid (lexA s.data.toList 0 0 = Res.app ts (lexA (s.data.toList.drop i) i ts.length)) ∧ Hid (BareAt s.data.toList i) ∧ Below w0.heap.size w0 wr) (fun _ t _ => s.size - (intOf t).toNat)
  case atStart => exact ⟨j0, [], hj0, Nat.zero_le _, rfl, World.ownsRow_nil _ _ _ _, by show lexA s.data.toList 0 0 = _; rw [app_nil, ← HS0.out]; rfl, HB0, Below.refl _ _⟩
  case round =>
    obtain ⟨i, ts, hi, ht, rfl, hr, hl, hba, hb⟩ := hrel
    obtain ⟨ao, cap, hv⟩ := row_len hr.out
    subst hv
    by_cases c : i < s.size
    · have c' : (i : Int) < (s.size : Int) := by omega
      obtain ⟨ch, hch, hc⟩ := byte_at s c
      have hbare := hba.out ch hc
      have hw := word_any s i ch hc hbare hs2
      cases hst : stepL (s.data.toList.drop i) with
      | skip n => exact absurd hst (bare_skip hc hbare)
      | bad =>
        rw [hst] at hw
        have HW : Hid (∀ W : World, Calls Tryd.prog 18 #[.string s, .int .i64 (i : Int)] W fun e w' => e = .panicked [{ v := faultV 10 i, recovered := false }] ∧ Below W.heap.size W w') := hw
        have E : Hid (lexA s.data.toList 0 0 = .err 10 i) := by
          show _ = _
          rw [hl.out, lexA_bad (fun e => by rw [drop_at hc] at e; cases e) hst]; rfl
        clear hw hc hst
        go_wp2_with (go_at_call 18; refine (HW.out _).mono ?_; rintro e w1 ⟨rfl, hb1⟩)
        refine ⟨rfl, ?_, hb.trans (hb1.mono hb.size)⟩
        rw [E.out]; rfl
      | tok kd v n =>
        rw [hst] at hw
        have hn := tok_len hst
        rw [List.length_drop, HL.out] at hn
        obtain ⟨y, hy⟩ : ∃ y : ByteArray, (⟨((s.data.toList.drop i).take n).toArray⟩ : ByteArray) = y := ⟨_, rfl⟩
        have hyn : y.size = n := by rw [← hy, Lib.size_eq]; simp [HL.out]; omega
        have HW : Hid (∀ W : World, Calls Tryd.prog 18 #[.string s, .int .i64 (i : Int)] W fun e w' => e = .returned (.agg #[.int .i64 (kd : Int), .string y, .int .i64 (v : Int), .int .i64 (i : Int)]) ∧ Below W.heap.size W w') := by rw [← hy]; exact hw
        have HY : Hid ((⟨((s.data.toList.drop i).take n).toArray⟩ : ByteArray) = y) := hy
        have HST : Hid (stepL (s.data.toList.drop i) = .tok kd v n) := hst
        have HBL : Hid (∀ W : World, Calls Tryd.prog 17 #[.string s, .int .i64 ((i : Int) + (y.size : Int))] W fun e w' => (∃ j : Nat, e = .returned (.int .i64 (j : Int)) ∧ i + n ≤ j ∧ j ≤ s.size ∧ Skips s.data.toList (i + n) j ∧ BareAt s.data.toList j) ∧ w' = W) := fun W => by
          have := blanksEnd_any s (i + n) (by omega) W hs2
          rw [hyn, ← Int.natCast_add]; exact this
        have hy8 : i + y.size ≤ s.size := by omega
        have HYN : Hid (y.size = n) := hyn
        clear hw hc hst hy hyn
        by_cases k15 : ts.length = 1500
        · have k15' : ((ts.length : Int) == 1500) = true := by rw [beq_iff_eq]; omega
          have E : Hid (lexA s.data.toList 0 0 = .err 15 i) := by show _ = _; rw [hl.out, lexA_many HST.out i (by omega)]; rfl
          clear k15
          go_wp2_with (go_at_call 18; refine (HW.out _).mono ?_; rintro e w1 ⟨rfl, hb1⟩)
          refine ⟨rfl, ?_, ?_⟩
          · rw [E.out]; rfl
          · exact (hb.trans (hb1.mono hb.size)).alloc (Nat.le_trans hb.size hb1.size) _
        · have k15' : ((ts.length : Int) == 1500) = false := by rw [beq_eq_false_iff_ne]; omega
          go_wp2_with (first | (go_at_call 18; refine (HW.out _).mono ?_; rintro e w1 ⟨rfl, hb1⟩) | (at_builtin; refine wpList_append_own _ rfl _ _ 24 rfl w0.heap.size 29 i0 _ 4 40 Tryd.underlying24 hi0 hz0 hz1 hz2 rfl (by omega) _ ts.length (cellsT ts) rfl (row_alloc (row_alloc (row_below hr.out hb1) _) _) ⟨w1.heap.size + 1, 0, none⟩ 1 1 [.int .i64 (kd : Nat), .string y, .int .i64 (v : Nat), .int .i64 i] rfl ?qc1 ?qc2 ?qc3 ?qc4 ?qc5 ?qc6 ?_))
          try (case qc1 => rfl)
          try
            case qc2 =>
              intro z u hz
              match z with
              | 0 => rw [Addr.add_lit]; exact cell_new (by simp) hz
              | 1 => rw [Addr.add_lit]; exact cell_new (by simp) hz
              | 2 => rw [Addr.add_lit]; exact cell_new (by simp) hz
              | 3 => rw [Addr.add_lit]; exact cell_new (by simp) hz
              | z + 4 => simp at hz
          try (case qc3 => first | (intro u hu; simp at hu; rcases hu with rfl | rfl | rfl | rfl <;> rfl) | exact ⟨rfl, rfl, rfl, rfl⟩ | simp [Value.oneCell'])
          try (case qc4 => unfold maxLen; omega)
          try (case qc5 => omega)
          try (case qc6 => have := hb.size; have := hb1.size; simp; omega)
          intro v1 w2 hown hgrow hnil
          have ctext : w2.cell? ⟨w1.heap.size, 1, none⟩ = some (.string y) := by
            refine hgrow.cell (a := ⟨w1.heap.size, 1, none⟩) ?_ (fun e => by have h := row_lt (row_below hr.out hb1) e.symm; exact Nat.lt_irrefl _ h)
            simp [go_sem]
          have HOWN : Hid (w2.ownsRow w0.heap.size 29 4 v1 (ts.length + 1) (cellsT ts ++ [Value.int IntKind.i64 (kd : Int), Value.string y, Value.int IntKind.i64 (v : Int), Value.int IntKind.i64 (i : Int)])) := hown
          have BEL : Hid (Below w0.heap.size w0 w2) := (((hb.trans (hb1.mono hb.size)).alloc (Nat.le_trans hb.size hb1.size) _).alloc (by have := hb.size; have := hb1.size; simp; omega) _).grown hgrow (by have := hb.size; have := hb1.size; simp; omega) (fun k hk => row_base hr.out hk)
          clear hown hgrow hnil
          go_wp2_with (go_at_call 17; refine (HBL.out _).mono ?_; rintro e w3 ⟨⟨j, rfl, hj1, hj2, hsk, hbj⟩, rfl⟩)
          go_roundw
          case rel =>
            refine ⟨j, ts ++ [⟨kd, (s.data.toList.drop i).take n, v, i⟩], hj2, by rw [List.length_append]; simp; omega, rfl, ?_, ?_, hbj, BEL.out⟩
            · show World.ownsRow _ _ _ _ _ _ _
              rw [List.length_append, cellsT_add]
              show World.ownsRow _ _ _ _ _ _ (_ ++ [_, .string ⟨_⟩, _, _])
              rw [HY.out]; exact HOWN.out
            · show _ = _
              rw [hl.out, lexA_tok HST.out i (by omega), app_cons, List.drop_drop, List.length_append]
              exact congrArg _ (hsk _)
          case measure => have := hn.1; simp [intOf]; omega
    · have ei : i = s.size := by omega
      have E : Hid (lexA s.data.toList 0 0 = .ok ts) := by
        show _ = _
        rw [hl.out, List.drop_eq_nil_of_le (by rw [HL.out]; omega), lexA_nil]; show Res.ok (ts ++ []) = _; rw [List.append_nil]
      clear ei
      go_wp2_with fail
      go_ret
      refine ⟨?_, hb⟩
      rw [E.out]; exact ⟨_, rfl, hr.out⟩
end Go.Proofs.YtlkidgilhlpjhaaDoor
