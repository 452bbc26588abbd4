/-
  The walk of the program's reader of all words.
  The walk of the program's Tokens: what its reader gives up with is recovered.
-/
import Derived.Test.YtkljakeccfnakaaGreatDoorLl
import Derived.Test.YtkljakeccfnakaaGreatDoorUu
import Derived.Defers
import Derived.Recover
import Derived.Laws.Pointers
namespace Go.Proofs.YtkljakeccfnakaaGreatDoor
open Go.RowKit

/-- How the reader of all words ends. -/
def WordsEnd (base : Nat) (w : World) (e : Ending) : Res → Prop
  | .ok ts => ∃ v, e = .returned v ∧ w.ownsRow base 107 4 v ts.length (cellsT ts)
  | .err c p => e = gaveUp c p
theorem bare_skip {l : List UInt8} {i n : Nat} {c : UInt8} (hc : l[i]? = some c) (hb : bare c = true) : stepL (l.drop i) ≠ .skip n := by
  obtain ⟨q, q1⟩ := bare_iff hb
  intro e
  cases q2 : small c
  · cases q3 : digit c
    · rw [sign_step hc q q1 q2 q3] at e; split at e <;> cases e
    · rw [step_num hc q q1 q2 q3] at e; split at e <;> cases e
  · rw [step_name hc q q1 q2] at e; split at e <;> cases e
theorem row_below {w w1 : World} {base e size n : Nat} {v : Value} {xs : List Value} (h : w.ownsRow base e size v n xs) (hb : Below w.heap.size w w1) : w1.ownsRow base e size v n xs := by
  obtain ⟨h1, h2⟩ := h
  refine ⟨h1, ?_⟩
  rcases h2 with h2 | ⟨g, cap, cur, e1, e2, e3, e4⟩
  · exact Or.inl h2
  · exact Or.inr ⟨g, cap, cur, e1, e2, (hb.block g (lt_of_block e3)).trans e3, e4⟩
theorem row_lt {w : World} {base e size n k : Nat} {v : Value} {xs : List Value} (h : w.ownsRow base e size v n xs) (hk : v.ownBlock = some k) : k < w.heap.size := by
  rcases h.2 with ⟨rfl, _⟩ | ⟨g, cap, cur, rfl, _, h3, _⟩
  · cases hk
  · simp only [Value.ownBlock, Option.some.injEq] at hk
    rw [← hk]; exact lt_of_block h3
set_option maxRecDepth 100000 in
set_option maxHeartbeats 20000000 in
theorem words_any (s : ByteArray) (w : World) (hs : s.size ≤ 8192) :
    Calls Tryz.prog 34 #[.string s] w fun e w' => WordsEnd w.heap.size w' e (lexA s.data.toList 0 0) ∧ Below w.heap.size w w' := by
  obtain ⟨i0, hi0, hz0, hz1, hz2⟩ := info32
  have HL : Hid (s.data.toList.length = s.size) := (Lib.size_eq s).symm
  have hs2 : s.size ≤ 140737488351232 := by omega
  go_enter Tryz.func34, Tryz.ntmps34
  go_wp2_with (go_at_call 70; refine (blanksEnd_any _ 0 (Nat.zero_le _) _ hs2).mono ?_; rintro e w0 ⟨⟨j0, rfl, _, hj0, hsk0, hba0⟩, rfl⟩)
  have HS0 : Hid (Skips s.data.toList 0 j0) := hsk0
  have HB0 : Hid (BareAt s.data.toList j0) := hba0
  clear hsk0 hba0
  go_loopw [3, 4] (fun v t wr => ∃ (i : Nat) (ts : List Tok), i ≤ s.size ∧ ts.length ≤ 1500 ∧ t = .int .i64 i ∧ Hid (wr.ownsRow w0.heap.size 107 4 v ts.length (cellsT ts)) ∧ Hid (lexA s.data.toList 0 0 = Res.app ts (lexA (s.data.toList.drop i) i ts.length)) ∧ Hid (BareAt s.data.toList i) ∧ Below w0.heap.size w0 wr) (fun _ t _ => s.size - (intOf t).toNat)
  case atStart => exact ⟨j0, [], hj0, Nat.zero_le _, rfl, World.ownsRow_nil _ _ _ _, by show lexA s.data.toList 0 0 = _; rw [app_nil, ← HS0.out]; rfl, HB0, Below.refl _ _⟩
  case round =>
    obtain ⟨i, ts, hi, ht, rfl, hr, hl, hba, hb⟩ := hrel
    obtain ⟨ao, cap, hv⟩ := row_len hr.out
    subst hv
    by_cases c : i < s.size
    · have c' : (i : Int) < (s.size : Int) := by omega
      obtain ⟨ch, hch, hc⟩ := byte_at s c
      have hbare := hba.out ch hc
      have hw := word_any s i ch hc hbare hs2
      cases hst : stepL (s.data.toList.drop i) with
      | skip n => exact absurd hst (bare_skip hc hbare)
      | bad =>
        rw [hst] at hw
        have HW : Hid (∀ W : World, Calls Tryz.prog 71 #[.string s, .int .i64 (i : Int)] W fun e w' => e = .panicked [{ v := faultV 10 i, recovered := false }] ∧ Below W.heap.size W w') := hw
        have E : Hid (lexA s.data.toList 0 0 = .err 10 i) := by
          show _ = _
          rw [hl.out, lexA_bad (fun e => by rw [drop_at hc] at e; cases e) hst]; rfl
        clear hw hc hst
        go_wp2_with (go_at_call 71; refine (HW.out _).mono ?_; rintro e w1 ⟨rfl, hb1⟩)
        refine ⟨rfl, ?_, hb.trans (hb1.mono hb.size)⟩
        rw [E.out]; rfl
      | tok kd v n =>
        rw [hst] at hw
        have hn := tok_len hst
        rw [List.length_drop, HL.out] at hn
        obtain ⟨y, hy⟩ : ∃ y : ByteArray, (⟨((s.data.toList.drop i).take n).toArray⟩ : ByteArray) = y := ⟨_, rfl⟩
        have hyn : y.size = n := by rw [← hy, Lib.size_eq]; simp [HL.out]; omega
        have HW : Hid (∀ W : World, Calls Tryz.prog 71 #[.string s, .int .i64 (i : Int)] W fun e w' => e = .returned (.agg #[.int .i64 (kd : Int), .string y, .int .i64 (v : Int), .int .i64 (i : Int)]) ∧ Below W.heap.size W w') := by rw [← hy]; exact hw
        have HY : Hid ((⟨((s.data.toList.drop i).take n).toArray⟩ : ByteArray) = y) := hy
        have HST : Hid (stepL (s.data.toList.drop i) = .tok kd v n) := hst
        have HBL : Hid (∀ W : World, Calls Tryz.prog 70 #[.string s, .int .i64 ((i : Int) + (y.size : Int))] W fun e w' => (∃ j : Nat, e = .returned (.int .i64 (j : Int)) ∧ i + n ≤ j ∧ j ≤ s.size ∧ Skips s.data.toList (i + n) j ∧ BareAt s.data.toList j) ∧ w' = W) := fun W => by
          have := blanksEnd_any s (i + n) (by omega) W hs2
          rw [hyn, ← Int.natCast_add]; exact this
        have hy8 : i + y.size ≤ s.size := by omega
        have HYN : Hid (y.size = n) := hyn
        clear hw hc hst hy hyn
        by_cases k15 : ts.length = 1500
        · have k15' : ((ts.length : Int) == 1500) = true := by rw [beq_iff_eq]; omega
          have E : Hid (lexA s.data.toList 0 0 = .err 15 i) := by show _ = _; rw [hl.out, lexA_many HST.out i (by omega)]; rfl
          clear k15
          go_wp2_with (go_at_call 71; refine (HW.out _).mono ?_; rintro e w1 ⟨rfl, hb1⟩)
          refine ⟨rfl, ?_, ?_⟩
          · rw [E.out]; rfl
          · exact (hb.trans (hb1.mono hb.size)).alloc (Nat.le_trans hb.size hb1.size) _
        · have k15' : ((ts.length : Int) == 1500) = false := by rw [beq_eq_false_iff_ne]; omega
          go_wp2_with (first | (go_at_call 71; refine (HW.out _).mono ?_; rintro e w1 ⟨rfl, hb1⟩) | (at_builtin; refine wpList_append_own _ rfl _ _ 33 rfl w0.heap.size 107 i0 _ 4 40 Tryz.underlying33 hi0 hz0 hz1 hz2 rfl (by omega) _ ts.length (cellsT ts) rfl (row_alloc (row_alloc (row_below hr.out hb1) _) _) ⟨w1.heap.size + 1, 0, none⟩ 1 1 [.int .i64 (kd : Nat), .string y, .int .i64 (v : Nat), .int .i64 i] rfl ?qc1 ?qc2 ?qc3 ?qc4 ?qc5 ?qc6 ?_))
          try (case qc1 => rfl)
          try
            case qc2 =>
              intro z u hz
              match z with
              | 0 => rw [Addr.add_lit]; exact cell_new (by simp) hz
              | 1 => rw [Addr.add_lit]; exact cell_new (by simp) hz
              | 2 => rw [Addr.add_lit]; exact cell_new (by simp) hz
              | 3 => rw [Addr.add_lit]; exact cell_new (by simp) hz
              | z + 4 => simp at hz
          try (case qc3 => first | (intro u hu; simp at hu; rcases hu with rfl | rfl | rfl | rfl <;> rfl) | exact ⟨rfl, rfl, rfl, rfl⟩ | simp [Value.oneCell'])
          try (case qc4 => unfold maxLen; omega)
          try (case qc5 => omega)
          try (case qc6 => have := hb.size; have := hb1.size; simp; omega)
          intro v1 w2 hown hgrow hnil
          have ctext : w2.cell? ⟨w1.heap.size, 1, none⟩ = some (.string y) := by
            refine hgrow.cell (a := ⟨w1.heap.size, 1, none⟩) ?_ (fun e => by have h := row_lt (row_below hr.out hb1) e.symm; exact Nat.lt_irrefl _ h)
            simp [go_sem]
          have HOWN : Hid (w2.ownsRow w0.heap.size 107 4 v1 (ts.length + 1) (cellsT ts ++ [Value.int IntKind.i64 (kd : Int), Value.string y, Value.int IntKind.i64 (v : Int), Value.int IntKind.i64 (i : Int)])) := hown
          have BEL : Hid (Below w0.heap.size w0 w2) := (((hb.trans (hb1.mono hb.size)).alloc (Nat.le_trans hb.size hb1.size) _).alloc (by have := hb.size; have := hb1.size; simp; omega) _).grown hgrow (by have := hb.size; have := hb1.size; simp; omega) (fun k hk => row_base hr.out hk)
          clear hown hgrow hnil
          go_wp2_with (go_at_call 70; refine (HBL.out _).mono ?_; rintro e w3 ⟨⟨j, rfl, hj1, hj2, hsk, hbj⟩, rfl⟩)
          go_roundw
          case rel =>
            refine ⟨j, ts ++ [⟨kd, (s.data.toList.drop i).take n, v, i⟩], hj2, by rw [List.length_append]; simp; omega, rfl, ?_, ?_, hbj, BEL.out⟩
            · show World.ownsRow _ _ _ _ _ _ _
              rw [List.length_append, cellsT_add]
              show World.ownsRow _ _ _ _ _ _ (_ ++ [_, .string ⟨_⟩, _, _])
              rw [HY.out]; exact HOWN.out
            · show _ = _
              rw [hl.out, lexA_tok HST.out i (by omega), app_cons, List.drop_drop, List.length_append]
              exact congrArg _ (hsk _)
          case measure => have := hn.1; simp [intOf]; omega
    · have ei : i = s.size := by omega
      have E : Hid (lexA s.data.toList 0 0 = .ok ts) := by
        show _ = _
        rw [hl.out, List.drop_eq_nil_of_le (by rw [HL.out]; omega), lexA_nil]; show Res.ok (ts ++ []) = _; rw [List.append_nil]
      clear ei
      go_wp2_with fail
      go_ret
      refine ⟨?_, hb⟩
      rw [E.out]; exact ⟨_, rfl, hr.out⟩
end Go.Proofs.YtkljakeccfnakaaGreatDoor

namespace Go.Proofs.YtkljakeccfnakaaGreatDoor
open Go.RowKit

theorem assert37 (v : Value) (w : World) : (Instr.typeAssert (.iface 69 v) 20 69 false).run Tryz.prog w = .ok v w := by
  simp [Instr.typeAssert, run_underlying Tryz.underlying69]

set_option maxHeartbeats 4000000 in
theorem catch_panicking (p : Nat) (v0 : Value) (x1 x2 : Int) (c q : Nat) (older : List PanicEntry) (w : World)
    (h0 : w.heap[p]? = some (.cells #[v0] 33 (0, 0))) (h1 : w.heap[p + 1]? = some (.cells #[.int .i64 x1] 28 (0, 0))) (h2 : w.heap[p + 2]? = some (.cells #[.int .i64 x2] 3 (0, 0))) :
    CallsD Tryz.prog 33 #[.pointer (some ⟨p, 0, none⟩), .pointer (some ⟨p + 1, 0, none⟩), .pointer (some ⟨p + 2, 0, none⟩)] (.panicking ({ v := faultV c q, recovered := false } :: older)) w fun e u' w' =>
      e = .returned (.tuple #[]) ∧ u' = .panicking ({ v := faultV c q, recovered := true } :: older) ∧
      w'.cell? ⟨p, 0, none⟩ = some (.slice none 0 0) ∧ w'.cell? ⟨p + 1, 0, none⟩ = some (.int .i64 (c : Int)) ∧ w'.cell? ⟨p + 2, 0, none⟩ = some (.int .i64 (q : Int)) ∧ Below p w w' := by
  unfold faultV
  refine callsD_of_wpS Tryz.func33 rfl fun c₀ cs hu => ?_
  apply wpS_seq
  apply wpS_region
  simp [wpOpsS, go_sem, recoverD, hu, Tryz.ntmps33, Exit.thenS]
  refine wpS_of_wp ?_
  rw [show #[Value.pointer (some ⟨p, 0, none⟩), Value.pointer (some ⟨p + 1, 0, none⟩), Value.pointer (some ⟨p + 2, 0, none⟩)] ++ ((Array.replicate 11 undef).setIfInBounds 2 (Value.iface 69 (Value.agg #[Value.int IntKind.i64 (c : Int), Value.int IntKind.i64 (q : Int)]))).setIfInBounds 0 (Value.iface 69 (Value.agg #[Value.int IntKind.i64 (c : Int), Value.int IntKind.i64 (q : Int)])) =
    #[Value.pointer (some ⟨p, 0, none⟩), Value.pointer (some ⟨p + 1, 0, none⟩), Value.pointer (some ⟨p + 2, 0, none⟩), Value.iface 69 (Value.agg #[Value.int IntKind.i64 (c : Int), Value.int IntKind.i64 (q : Int)]), undef, Value.iface 69 (Value.agg #[Value.int IntKind.i64 (c : Int), Value.int IntKind.i64 (q : Int)]), undef, undef, undef, undef, undef, undef, undef, undef] from rfl]
  have e0 : w.cell? ⟨p, 0, none⟩ = some v0 := by simp [World.cell?, h0]
  have e1 : w.cell? ⟨p + 1, 0, none⟩ = some (.int .i64 x1) := by simp [World.cell?, h1]
  have e2 : w.cell? ⟨p + 2, 0, none⟩ = some (.int .i64 x2) := by simp [World.cell?, h2]
  have f0 : w.frozen? ⟨p, 0, none⟩ = false := by simp [World.frozen?, h0]
  have f1 : w.frozen? ⟨p + 1, 0, none⟩ = false := by simp [World.frozen?, h1]
  have f2 : w.frozen? ⟨p + 2, 0, none⟩ = false := by simp [World.frozen?, h2]
  have l0 : p < w.heap.size := lt_of_block h0
  have l1 : p + 1 < w.heap.size := lt_of_block h1
  have l2 : p + 2 < w.heap.size := lt_of_block h2
  clear h0 h1 h2
  have ha := assert37
  go_wp2
  go_region
  refine ⟨rfl, _, rfl, .tuple #[], results_none rfl _ _ _, rfl, rfl, ?_, ?_, ?_, ?_⟩
  · simp [go_sem, World.cell?_setCell_other, e0, l0]
  · simp [go_sem, World.cell?_setCell_other, e1, l1]
  · simp [go_sem, World.cell?_setCell_other, e2, l2]
  · exact (((((Below.refl p w).setCell (Nat.le_refl p) _).setCell (p := ⟨p + 1, 0, none⟩) (Nat.le_succ p) _).setCell (p := ⟨p + 2, 0, none⟩) (Nat.le_add_right p 2) _).alloc (by simp; omega) _).drew

theorem catch_idle (a b c : Value) (w : World) :
    CallsD Tryz.prog 33 #[a, b, c] .returning w fun e u' w' => e = .returned (.tuple #[]) ∧ u' = .returning ∧ w' = w := by
  refine callsD_of_wpS Tryz.func33 rfl fun c₀ cs hu => ?_
  apply wpS_seq
  apply wpS_region
  simp [wpOpsS, go_sem, recoverD, hu, Tryz.ntmps33, Exit.thenS]
  apply wpS_seq
  apply wpS_region
  simp [wpOpsS, go_sem, Exit.thenS]
  refine wpS_cond (t := false) (by simp [Act.eval, Array.replicate]) ?_
  simp only [Bool.false_eq_true, if_false]
  refine wpS_of_wp (wp_skip ?_)
  cases c₀
  simp_all [bodyPostS, results, Tryz.results33]

theorem three_new (w : World) (a b c : Obj) : (((w.alloc a).alloc b).alloc c).heap[w.heap.size]? = some a ∧ (((w.alloc a).alloc b).alloc c).heap[w.heap.size + 1]? = some b ∧ (((w.alloc a).alloc b).alloc c).heap[w.heap.size + 2]? = some c := by
  have s1 : (w.alloc a).heap.size = w.heap.size + 1 := by simp
  have s2 : ((w.alloc a).alloc b).heap.size = w.heap.size + 2 := by simp
  have h1 := heap_alloc_new w a
  have h2 := heap_alloc_new (w.alloc a) b
  have h3 := heap_alloc_new ((w.alloc a).alloc b) c
  rw [s1] at h2
  rw [s2] at h3
  refine ⟨?_, ?_, h3⟩
  · rw [Below.heap_alloc _ _ _ (by omega), Below.heap_alloc _ _ _ (by omega)]; exact h1
  · rw [Below.heap_alloc _ _ _ (by omega)]; exact h2
theorem three_below (w : World) (a b c : Obj) : Below w.heap.size w (((w.alloc a).alloc b).alloc c) := ba (ba (ba (Below.refl _ _)))

theorem three_kept {w w1 w2 : World} {a b c : Obj} (h1 : Below (((w.alloc a).alloc b).alloc c).heap.size (((w.alloc a).alloc b).alloc c) w1) (h2 : Below w1.heap.size w1 w2) :
    w2.heap[w.heap.size]? = some a ∧ w2.heap[w.heap.size + 1]? = some b ∧ w2.heap[w.heap.size + 2]? = some c ∧ Below w.heap.size w w2 := by
  obtain ⟨n0, n1, n2⟩ := three_new w a b c
  have s := h1.size
  have l2 := lt_of_block n2
  refine ⟨?_, ?_, ?_, (three_below w a b c).trans ((bl2 h1 h2).mono (by simp; omega))⟩
  · rw [h2.block _ (by omega), h1.block _ (by omega)]; exact n0
  · rw [h2.block _ (by omega), h1.block _ (by omega)]; exact n1
  · rw [h2.block _ (by omega), h1.block _ (by omega)]; exact n2
theorem row_lower {w : World} {base base' e size n : Nat} {v : Value} {xs : List Value} (h : w.ownsRow base e size v n xs) (hb : base' ≤ base) : w.ownsRow base' e size v n xs := by
  obtain ⟨h1, h2⟩ := h
  refine ⟨h1, ?_⟩
  rcases h2 with h2 | ⟨g, cap, cur, e1, e2, e3, e4⟩
  · exact Or.inl h2
  · exact Or.inr ⟨g, cap, cur, e1, Nat.le_trans hb e2, e3, e4⟩
theorem Hid.intro {p : Prop} (h : p) : Hid p := h
theorem block_cell {w : World} {k t : Nat} {v : Value} (h : w.heap[k]? = some (.cells #[v] t (0, 0))) : w.cell? ⟨k, 0, none⟩ = some v ∧ w.frozen? ⟨k, 0, none⟩ = false := by
  constructor
  · simp [World.cell?, h]
  · simp [World.frozen?, h]

set_option maxHeartbeats 4000000 in
theorem tokens_long (s : ByteArray) (w : World) (h : 8192 < s.size) (hs : s.size ≤ 140737488351232) :
    Calls Tryz.prog 14 #[.string s] w fun e w' => e = .returned (.tuple #[.slice none 0 0, .int .i64 15, .int .i64 0]) ∧ Below w.heap.size w w' := by
  have hmf : ∀ (fn : Fn) (first cap : Array Value) (w : World), (Instr.makeFunc fn first cap).run Tryz.prog w = .ok (.func fn first cap) w := fun _ _ _ _ => rfl
  have h' : (8192 : Int) < (s.size : Int) := by omega
  go_enter_defers Tryz.func14, Tryz.ntmps14
  go_wp2
  refine leaves_cons (f := 33) (args := #[.pointer (some ⟨w.heap.size, 0, none⟩), .pointer (some ⟨w.heap.size + 1, 0, none⟩), .pointer (some ⟨w.heap.size + 2, 0, none⟩)]) (by simp) (by simp [go_sem]) ?_
  have h3 := three_new w (.cells #[Value.slice none 0 0] 33) (.cells #[.int .i64 0] 28) (.cells #[.int .i64 0] 3)
  refine (catch_panicking w.heap.size (.slice none 0 0) 0 0 15 0 [] _ h3.1 h3.2.1 h3.2.2).mono ?_
  rintro e u' w'' ⟨rfl, rfl, c0, c1, c2, hb⟩
  simp [Leaves, settle, results, Tryz.results14, go_sem, c0, c1, c2]
  exact (three_below w _ _ _).trans hb

set_option maxHeartbeats 4000000 in
theorem tokens_err (s : ByteArray) (w : World) (h : s.size ≤ 8192) (c p : Nat) (hl : lexA s.data.toList 0 0 = .err c p) :
    Calls Tryz.prog 14 #[.string s] w fun e w' => e = .returned (.tuple #[.slice none 0 0, .int .i64 (c : Int), .int .i64 (p : Int)]) ∧ Below w.heap.size w w' := by
  have hmf : ∀ (fn : Fn) (first cap : Array Value) (w : World), (Instr.makeFunc fn first cap).run Tryz.prog w = .ok (.func fn first cap) w := fun _ _ _ _ => rfl
  have h' : ¬ (8192 : Int) < (s.size : Int) := by omega
  have hw := fun W => words_any s W h
  rw [hl] at hw
  have HW : Hid (∀ W : World, Calls Tryz.prog 34 #[.string s] W fun e w' => e = .panicked [{ v := faultV c p, recovered := false }] ∧ Below W.heap.size W w') := hw
  clear hw hl
  go_enter_defers Tryz.func14, Tryz.ntmps14
  go_wp2_with (first | (go_at_call 35; refine (clone_any _ _ (by omega)).mono ?_; rintro e w1 ⟨rfl, hb1⟩) | (go_at_call 34; refine (HW.out _).mono ?_; rintro e w2 ⟨rfl, hb2⟩))
  obtain ⟨n0, n1, n2, hb⟩ := three_kept hb1 hb2
  refine leaves_cons (f := 33) (args := #[.pointer (some ⟨w.heap.size, 0, none⟩), .pointer (some ⟨w.heap.size + 1, 0, none⟩), .pointer (some ⟨w.heap.size + 2, 0, none⟩)]) (by simp) (by simp [go_sem]) ?_
  refine (catch_panicking w.heap.size (.slice none 0 0) 0 0 c p [] _ n0 n1 n2).mono ?_
  rintro e u' w'' ⟨rfl, rfl, c0, c1, c2, hb3⟩
  simp [Leaves, settle, results, Tryz.results14, go_sem, c0, c1, c2]
  exact hb.trans hb3

set_option maxHeartbeats 4000000 in
theorem tokens_ok (s : ByteArray) (w : World) (h : s.size ≤ 8192) (ts : List Tok) (hl : lexA s.data.toList 0 0 = .ok ts) :
    Calls Tryz.prog 14 #[.string s] w fun e w' => (∃ v, e = .returned (.tuple #[v, .int .i64 0, .int .i64 0]) ∧ w'.ownsRow w.heap.size 107 4 v ts.length (cellsT ts)) ∧ Below w.heap.size w w' := by
  have hmf : ∀ (fn : Fn) (first cap : Array Value) (w : World), (Instr.makeFunc fn first cap).run Tryz.prog w = .ok (.func fn first cap) w := fun _ _ _ _ => rfl
  have h' : ¬ (8192 : Int) < (s.size : Int) := by omega
  have hw := fun W => words_any s W h
  rw [hl] at hw
  have HW : Hid (∀ W : World, Calls Tryz.prog 34 #[.string s] W fun e w' => (∃ v, e = .returned v ∧ w'.ownsRow W.heap.size 107 4 v ts.length (cellsT ts)) ∧ Below W.heap.size W w') := hw
  clear hw hl
  go_enter_defers Tryz.func14, Tryz.ntmps14
  go_wp2_with (first | (go_at_call 35; refine (clone_any _ _ (by omega)).mono ?_; rintro e w1 ⟨rfl, hb1⟩) | (go_at_call 34; refine (HW.out _).mono ?_; rintro e w2 ⟨⟨v, rfl, hv⟩, hb2⟩; obtain ⟨a, cap, rfl⟩ := row_len hv; have hk := three_kept hb1 hb2; have c0 := (block_cell hk.1).1; have f0 := (block_cell hk.1).2; have c1 := (block_cell hk.2.1).1; have f1 := (block_cell hk.2.1).2; have c2 : w2.cell? ⟨w.heap.size + 1 + 1, 0, none⟩ = some (.int .i64 0) := (block_cell hk.2.2.1).1; have f2 : w2.frozen? ⟨w.heap.size + 1 + 1, 0, none⟩ = false := (block_cell hk.2.2.1).2; have HV := Hid.intro hv; have HK := Hid.intro hk; have HB1 := Hid.intro hb1; have HB2 := Hid.intro hb2; clear hv hk hb1 hb2))
  have s1 := HB1.out.size
  simp at s1
  have s2 := HB2.out.size
  refine leaves_cons (f := 33) (args := #[.pointer (some ⟨w.heap.size, 0, none⟩), .pointer (some ⟨w.heap.size + 1, 0, none⟩), .pointer (some ⟨w.heap.size + 1 + 1, 0, none⟩)]) (by simp) (by simp [go_sem]) ?_
  refine (catch_idle _ _ _ _).mono ?_
  rintro e u' w'' ⟨rfl, rfl, rfl⟩
  have r0 : (((w2.setCell ⟨w.heap.size, 0, none⟩ (.slice a ts.length cap)).setCell ⟨w.heap.size + 1, 0, none⟩ (.int .i64 0)).setCell ⟨w.heap.size + 1 + 1, 0, none⟩ (.int .i64 0)).ownsRow w.heap.size 107 4 (.slice a ts.length cap) ts.length (cellsT ts) := by
    refine row_lower ?_ (show w.heap.size ≤ w1.heap.size by omega)
    exact ownsRow_setCell_below (ownsRow_setCell_below (ownsRow_setCell_below HV.out (show w.heap.size < _ by omega) _) (show w.heap.size + 1 < _ by omega) _) (show w.heap.size + 1 + 1 < _ by omega) _
  have r1 : Below w.heap.size w (((w2.setCell ⟨w.heap.size, 0, none⟩ (.slice a ts.length cap)).setCell ⟨w.heap.size + 1, 0, none⟩ (.int .i64 0)).setCell ⟨w.heap.size + 1 + 1, 0, none⟩ (.int .i64 0)) :=
    bs (bs (bs HK.out.2.2.2 (Nat.le_refl _)) (Nat.le_succ _)) (by show w.heap.size ≤ w.heap.size + 1 + 1; omega)
  have HR0 := Hid.intro r0
  have HR1 := Hid.intro r1
  clear r0 r1
  simp [Leaves, settle, results, Tryz.results14, go_sem, World.cell?_setCell_other, c0, c1, c2]
  exact ⟨HR0.out, HR1.out⟩

/-- The program's own functions of layer 4 keep their contracts. -/
theorem lexC_holds : LexC where
  tokens := fun s w hs => by
    by_cases h : 8192 < s.size
    · refine (tokens_long s w h hs).mono fun e w' ⟨he, hb⟩ => ?_
      have : lexT s.data.toList = .err 15 0 := by unfold lexT; rw [if_pos (by rw [← Lib.size_eq]; exact h)]
      rw [this]
      exact ⟨⟨_, _, _, he, rfl, rfl, nil_tok _⟩, hb⟩
    · have : lexT s.data.toList = lexA s.data.toList 0 0 := by unfold lexT; rw [if_neg (by rw [← Lib.size_eq]; exact h)]; rfl
      rw [this]
      cases hr : lexA s.data.toList 0 0 with
      | ok ts =>
        have hc := lexA_count _ _ 0 0 ts (Nat.le_refl _) (by omega) hr
        exact (tokens_ok s w (by omega) ts hr).mono fun e w' ⟨⟨v, he, hv⟩, hb⟩ => ⟨⟨v, _, _, he, rfl, rfl, row_tok hv (by omega)⟩, hb⟩
      | err c p => exact (tokens_err s w (by omega) c p hr).mono fun e w' ⟨he, hb⟩ => ⟨⟨_, _, _, he, rfl, rfl, nil_tok _⟩, hb⟩
end Go.Proofs.YtkljakeccfnakaaGreatDoor
