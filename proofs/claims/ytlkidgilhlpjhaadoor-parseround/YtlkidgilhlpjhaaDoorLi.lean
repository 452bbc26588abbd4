/-
  The walk of the program's Tokens: what its reader gives up with is recovered.
-/
import Derived.Test.YtlkidgilhlpjhaaDoorLh
import Derived.Test.YtlkidgilhlpjhaaDoorLl
import Derived.Test.YtlkidgilhlpjhaaDoorU
import Derived.Defers
import Derived.Recover
import Derived.Laws.Pointers
namespace Go.Proofs.YtlkidgilhlpjhaaDoor
open Go.RowKit

theorem assert37 (v : Value) (w : World) : (Instr.typeAssert (.iface 44 v) 20 44 false).run Tryd.prog w = .ok v w := by
  simp [Instr.typeAssert, run_underlying Tryd.underlying44]

set_option maxHeartbeats 4000000 in
theorem catch_panicking (p : Nat) (v0 : Value) (x1 x2 : Int) (c q : Nat) (older : List PanicEntry) (w : World)
    (h0 : w.heap[p]? = some (.cells #[v0] 24 (0, 0))) (h1 : w.heap[p + 1]? = some (.cells #[.int .i64 x1] 25 (0, 0))) (h2 : w.heap[p + 2]? = some (.cells #[.int .i64 x2] 3 (0, 0))) :
    CallsD Tryd.prog 12 #[.pointer (some ⟨p, 0, none⟩), .pointer (some ⟨p + 1, 0, none⟩), .pointer (some ⟨p + 2, 0, none⟩)] (.panicking ({ v := faultV c q, recovered := false } :: older)) w fun e u' w' =>
      e = .returned (.tuple #[]) ∧ u' = .panicking ({ v := faultV c q, recovered := true } :: older) ∧
      w'.cell? ⟨p, 0, none⟩ = some (.slice none 0 0) ∧ w'.cell? ⟨p + 1, 0, none⟩ = some (.int .i64 (c : Int)) ∧ w'.cell? ⟨p + 2, 0, none⟩ = some (.int .i64 (q : Int)) ∧ Below p w w' := by
  unfold faultV
  refine callsD_of_wpS Tryd.func12 rfl fun c₀ cs hu => ?_
  apply wpS_seq
  apply wpS_region
  simp [wpOpsS, go_sem, recoverD, hu, Tryd.ntmps12, Exit.thenS]
  refine wpS_of_wp ?_
  rw [show #[Value.pointer (some ⟨p, 0, none⟩), Value.pointer (some ⟨p + 1, 0, none⟩), Value.pointer (some ⟨p + 2, 0, none⟩)] ++ ((Array.replicate 11 undef).setIfInBounds 2 (Value.iface 44 (Value.agg #[Value.int IntKind.i64 (c : Int), Value.int IntKind.i64 (q : Int)]))).setIfInBounds 0 (Value.iface 44 (Value.agg #[Value.int IntKind.i64 (c : Int), Value.int IntKind.i64 (q : Int)])) =
    #[Value.pointer (some ⟨p, 0, none⟩), Value.pointer (some ⟨p + 1, 0, none⟩), Value.pointer (some ⟨p + 2, 0, none⟩), Value.iface 44 (Value.agg #[Value.int IntKind.i64 (c : Int), Value.int IntKind.i64 (q : Int)]), undef, Value.iface 44 (Value.agg #[Value.int IntKind.i64 (c : Int), Value.int IntKind.i64 (q : Int)]), undef, undef, undef, undef, undef, undef, undef, undef] from rfl]
  have e0 : w.cell? ⟨p, 0, none⟩ = some v0 := by simp [World.cell?, h0]
  have e1 : w.cell? ⟨p + 1, 0, none⟩ = some (.int .i64 x1) := by simp [World.cell?, h1]
  have e2 : w.cell? ⟨p + 2, 0, none⟩ = some (.int .i64 x2) := by simp [World.cell?, h2]
  have f0 : w.frozen? ⟨p, 0, none⟩ = false := by simp [World.frozen?, h0]
  have f1 : w.frozen? ⟨p + 1, 0, none⟩ = false := by simp [World.frozen?, h1]
  have f2 : w.frozen? ⟨p + 2, 0, none⟩ = false := by simp [World.frozen?, h2]
  have l0 : p < w.heap.size := lt_of_block h0
  have l1 : p + 1 < w.heap.size := lt_of_block h1
  have l2 : p + 2 < w.heap.size := lt_of_block h2
  clear h0 h1 h2
  have ha := assert37
  go_wp2
  go_region
  refine ⟨rfl, _, rfl, .tuple #[], results_none rfl _ _ _, rfl, rfl, ?_, ?_, ?_, ?_⟩
  · simp [go_sem, World.cell?_setCell_other, e0, l0]
  · simp [go_sem, World.cell?_setCell_other, e1, l1]
  · simp [go_sem, World.cell?_setCell_other, e2, l2]
  · exact (((((Below.refl p w).setCell (Nat.le_refl p) _).setCell (p := ⟨p + 1, 0, none⟩) (Nat.le_succ p) _).setCell (p := ⟨p + 2, 0, none⟩) (Nat.le_add_right p 2) _).alloc (by simp; omega) _).drew

theorem catch_idle (a b c : Value) (w : World) :
    CallsD Tryd.prog 12 #[a, b, c] .returning w fun e u' w' => e = .returned (.tuple #[]) ∧ u' = .returning ∧ w' = w := by
  refine callsD_of_wpS Tryd.func12 rfl fun c₀ cs hu => ?_
  apply wpS_seq
  apply wpS_region
  simp [wpOpsS, go_sem, recoverD, hu, Tryd.ntmps12, Exit.thenS]
  apply wpS_seq
  apply wpS_region
  simp [wpOpsS, go_sem, Exit.thenS]
  refine wpS_cond (t := false) (by simp [Act.eval, Array.replicate]) ?_
  simp only [Bool.false_eq_true, if_false]
  refine wpS_of_wp (wp_skip ?_)
  cases c₀
  simp_all [bodyPostS, results, Tryd.results12]

theorem three_new (w : World) (a b c : Obj) : (((w.alloc a).alloc b).alloc c).heap[w.heap.size]? = some a ∧ (((w.alloc a).alloc b).alloc c).heap[w.heap.size + 1]? = some b ∧ (((w.alloc a).alloc b).alloc c).heap[w.heap.size + 2]? = some c := by
  have s1 : (w.alloc a).heap.size = w.heap.size + 1 := by simp
  have s2 : ((w.alloc a).alloc b).heap.size = w.heap.size + 2 := by simp
  have h1 := heap_alloc_new w a
  have h2 := heap_alloc_new (w.alloc a) b
  have h3 := heap_alloc_new ((w.alloc a).alloc b) c
  rw [s1] at h2
  rw [s2] at h3
  refine ⟨?_, ?_, h3⟩
  · rw [Below.heap_alloc _ _ _ (by omega), Below.heap_alloc _ _ _ (by omega)]; exact h1
  · rw [Below.heap_alloc _ _ _ (by omega)]; exact h2
theorem three_below (w : World) (a b c : Obj) : Below w.heap.size w (((w.alloc a).alloc b).alloc c) := ba (ba (ba (Below.refl _ _)))

theorem three_kept {w w1 w2 : World} {a b c : Obj} (h1 : Below (((w.alloc a).alloc b).alloc c).heap.size (((w.alloc a).alloc b).alloc c) w1) (h2 : Below w1.heap.size w1 w2) :
    w2.heap[w.heap.size]? = some a ∧ w2.heap[w.heap.size + 1]? = some b ∧ w2.heap[w.heap.size + 2]? = some c ∧ Below w.heap.size w w2 := by
  obtain ⟨n0, n1, n2⟩ := three_new w a b c
  have s := h1.size
  have l2 := lt_of_block n2
  refine ⟨?_, ?_, ?_, (three_below w a b c).trans ((bl2 h1 h2).mono (by simp; omega))⟩
  · rw [h2.block _ (by omega), h1.block _ (by omega)]; exact n0
  · rw [h2.block _ (by omega), h1.block _ (by omega)]; exact n1
  · rw [h2.block _ (by omega), h1.block _ (by omega)]; exact n2
theorem row_lower {w : World} {base base' e size n : Nat} {v : Value} {xs : List Value} (h : w.ownsRow base e size v n xs) (hb : base' ≤ base) : w.ownsRow base' e size v n xs := by
  obtain ⟨h1, h2⟩ := h
  refine ⟨h1, ?_⟩
  rcases h2 with h2 | ⟨g, cap, cur, e1, e2, e3, e4⟩
  · exact Or.inl h2
  · exact Or.inr ⟨g, cap, cur, e1, Nat.le_trans hb e2, e3, e4⟩
theorem Hid.intro {p : Prop} (h : p) : Hid p := h
theorem block_cell {w : World} {k t : Nat} {v : Value} (h : w.heap[k]? = some (.cells #[v] t (0, 0))) : w.cell? ⟨k, 0, none⟩ = some v ∧ w.frozen? ⟨k, 0, none⟩ = false := by
  constructor
  · simp [World.cell?, h]
  · simp [World.frozen?, h]

set_option maxHeartbeats 4000000 in
theorem tokens_long (s : ByteArray) (w : World) (h : 8192 < s.size) (hs : s.size ≤ 140737488351232) :
    Calls Tryd.prog 7 #[.string s] w fun e w' => e = .returned (.tuple #[.slice none 0 0, .int .i64 15, .int .i64 0]) ∧ Below w.heap.size w w' := by
  have hmf : ∀ (fn : Fn) (first cap : Array Value) (w : World), (Instr.makeFunc fn first cap).run Tryd.prog w = .ok (.func fn first cap) w := fun _ _ _ _ => rfl
  have h' : (8192 : Int) < (s.size : Int) := by omega
  go_enter_defers Tryd.func7, Tryd.ntmps7
  go_wp2
  refine leaves_cons (f := 12) (args := #[.pointer (some ⟨w.heap.size, 0, none⟩), .pointer (some ⟨w.heap.size + 1, 0, none⟩), .pointer (some ⟨w.heap.size + 2, 0, none⟩)]) (by simp) (by simp [go_sem]) ?_
  have h3 := three_new w (.cells #[Value.slice none 0 0] 24) (.cells #[.int .i64 0] 25) (.cells #[.int .i64 0] 3)
  refine (catch_panicking w.heap.size (.slice none 0 0) 0 0 15 0 [] _ h3.1 h3.2.1 h3.2.2).mono ?_
  rintro e u' w'' ⟨rfl, rfl, c0, c1, c2, hb⟩
  simp [Leaves, settle, results, Tryd.results7, go_sem, c0, c1, c2]
  exact (three_below w _ _ _).trans hb

set_option maxHeartbeats 4000000 in
theorem tokens_err (s : ByteArray) (w : World) (h : s.size ≤ 8192) (c p : Nat) (hl : lexA s.data.toList 0 0 = .err c p) :
    Calls Tryd.prog 7 #[.string s] w fun e w' => e = .returned (.tuple #[.slice none 0 0, .int .i64 (c : Int), .int .i64 (p : Int)]) ∧ Below w.heap.size w w' := by
  have hmf : ∀ (fn : Fn) (first cap : Array Value) (w : World), (Instr.makeFunc fn first cap).run Tryd.prog w = .ok (.func fn first cap) w := fun _ _ _ _ => rfl
  have h' : ¬ (8192 : Int) < (s.size : Int) := by omega
  have hw := fun W => words_any s W h
  rw [hl] at hw
  have HW : Hid (∀ W : World, Calls Tryd.prog 13 #[.string s] W fun e w' => e = .panicked [{ v := faultV c p, recovered := false }] ∧ Below W.heap.size W w') := hw
  clear hw hl
  go_enter_defers Tryd.func7, Tryd.ntmps7
  go_wp2_with (first | (go_at_call 14; refine (clone_any _ _ (by omega)).mono ?_; rintro e w1 ⟨rfl, hb1⟩) | (go_at_call 13; refine (HW.out _).mono ?_; rintro e w2 ⟨rfl, hb2⟩))
  obtain ⟨n0, n1, n2, hb⟩ := three_kept hb1 hb2
  refine leaves_cons (f := 12) (args := #[.pointer (some ⟨w.heap.size, 0, none⟩), .pointer (some ⟨w.heap.size + 1, 0, none⟩), .pointer (some ⟨w.heap.size + 2, 0, none⟩)]) (by simp) (by simp [go_sem]) ?_
  refine (catch_panicking w.heap.size (.slice none 0 0) 0 0 c p [] _ n0 n1 n2).mono ?_
  rintro e u' w'' ⟨rfl, rfl, c0, c1, c2, hb3⟩
  simp [Leaves, settle, results, Tryd.results7, go_sem, c0, c1, c2]
  exact hb.trans hb3

set_option maxHeartbeats 4000000 in
theorem tokens_ok (s : ByteArray) (w : World) (h : s.size ≤ 8192) (ts : List Tok) (hl : lexA s.data.toList 0 0 = .ok ts) :
    Calls Tryd.prog 7 #[.string s] w fun e w' => (∃ v, e = .returned (.tuple #[v, .int .i64 0, .int .i64 0]) ∧ w'.ownsRow w.heap.size 29 4 v ts.length (cellsT ts)) ∧ Below w.heap.size w w' := by
  have hmf : ∀ (fn : Fn) (first cap : Array Value) (w : World), (Instr.makeFunc fn first cap).run Tryd.prog w = .ok (.func fn first cap) w := fun _ _ _ _ => rfl
  have h' : ¬ (8192 : Int) < (s.size : Int) := by omega
  have hw := fun W => words_any s W h
  rw [hl] at hw
  have HW : Hid (∀ W : World, Calls Tryd.prog 13 #[.string s] W fun e w' => (∃ v, e = .returned v ∧ w'.ownsRow W.heap.size 29 4 v ts.length (cellsT ts)) ∧ Below W.heap.size W w') := hw
  clear hw hl
  go_enter_defers Tryd.func7, Tryd.ntmps7
  go_wp2_with (first | (go_at_call 14; refine (clone_any _ _ (by omega)).mono ?_; rintro e w1 ⟨rfl, hb1⟩) | (go_at_call 13; refine (HW.out _).mono ?_; rintro e w2 ⟨⟨v, rfl, hv⟩, hb2⟩; obtain ⟨a, cap, rfl⟩ := row_len hv; have hk := three_kept hb1 hb2; have c0 := (block_cell hk.1).1; have f0 := (block_cell hk.1).2; have c1 := (block_cell hk.2.1).1; have f1 := (block_cell hk.2.1).2; have c2 : w2.cell? ⟨w.heap.size + 1 + 1, 0, none⟩ = some (.int .i64 0) := (block_cell hk.2.2.1).1; have f2 : w2.frozen? ⟨w.heap.size + 1 + 1, 0, none⟩ = false := (block_cell hk.2.2.1).2; have HV := Hid.intro hv; have HK := Hid.intro hk; have HB1 := Hid.intro hb1; have HB2 := Hid.intro hb2; clear hv hk hb1 hb2))
  have s1 := HB1.out.size
  simp at s1
  have s2 := HB2.out.size
  refine leaves_cons (f := 12) (args := #[.pointer (some ⟨w.heap.size, 0, none⟩), .pointer (some ⟨w.heap.size + 1, 0, none⟩), .pointer (some ⟨w.heap.size + 1 + 1, 0, none⟩)]) (by simp) (by simp [go_sem]) ?_
  refine (catch_idle _ _ _ _).mono ?_
  rintro e u' w'' ⟨rfl, rfl, rfl⟩
  have r0 : (((w2.setCell ⟨w.heap.size, 0, none⟩ (.slice a ts.length cap)).setCell ⟨w.heap.size + 1, 0, none⟩ (.int .i64 0)).setCell ⟨w.heap.size + 1 + 1, 0, none⟩ (.int .i64 0)).ownsRow w.heap.size 29 4 (.slice a ts.length cap) ts.length (cellsT ts) := by
    refine row_lower ?_ (show w.heap.size ≤ w1.heap.size by omega)
    exact ownsRow_setCell_below (ownsRow_setCell_below (ownsRow_setCell_below HV.out (show w.heap.size < _ by omega) _) (show w.heap.size + 1 < _ by omega) _) (show w.heap.size + 1 + 1 < _ by omega) _
  have r1 : Below w.heap.size w (((w2.setCell ⟨w.heap.size, 0, none⟩ (.slice a ts.length cap)).setCell ⟨w.heap.size + 1, 0, none⟩ (.int .i64 0)).setCell ⟨w.heap.size + 1 + 1, 0, none⟩ (.int .i64 0)) :=
    bs (bs (bs HK.out.2.2.2 (Nat.le_refl _)) (Nat.le_succ _)) (by show w.heap.size ≤ w.heap.size + 1 + 1; omega)
  have HR0 := Hid.intro r0
  have HR1 := Hid.intro r1
  clear r0 r1
  simp [Leaves, settle, results, Tryd.results7, go_sem, World.cell?_setCell_other, c0, c1, c2]
  exact ⟨HR0.out, HR1.out⟩

/-- The program's own functions of layer 4 keep their contracts. -/
theorem lexC_holds : LexC where
  tokens := fun s w hs => by
    by_cases h : 8192 < s.size
    · refine (tokens_long s w h hs).mono fun e w' ⟨he, hb⟩ => ?_
      have : lexT s.data.toList = .err 15 0 := by unfold lexT; rw [if_pos (by rw [← Lib.size_eq]; exact h)]
      rw [this]
      exact ⟨⟨_, _, _, he, rfl, rfl, nil_tok _⟩, hb⟩
    · have : lexT s.data.toList = lexA s.data.toList 0 0 := by unfold lexT; rw [if_neg (by rw [← Lib.size_eq]; exact h)]; rfl
      rw [this]
      cases hr : lexA s.data.toList 0 0 with
      | ok ts =>
        have hc := lexA_count _ _ 0 0 ts (Nat.le_refl _) (by omega) hr
        exact (tokens_ok s w (by omega) ts hr).mono fun e w' ⟨⟨v, he, hv⟩, hb⟩ => ⟨⟨v, _, _, he, rfl, rfl, row_tok hv (by omega)⟩, hb⟩
      | err c p => exact (tokens_err s w (by omega) c p hr).mono fun e w' ⟨he, hb⟩ => ⟨⟨_, _, _, he, rfl, rfl, nil_tok _⟩, hb⟩
end Go.Proofs.YtlkidgilhlpjhaaDoor
