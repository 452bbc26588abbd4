/-
  The walk of Parse: what its reader gives up with is recovered. The reader of a whole program is taken by its contract.
-/
import Derived.Test.YtkljakeccfnakaaGreatDoorHabc
import Derived.Test.YtkljakeccfnakaaGreatDoorGg
import Derived.Test.YtkljakeccfnakaaGreatDoorLm
import Derived.OneCell
namespace Go.Proofs.YtkljakeccfnakaaGreatDoor
open Go.RowKit

/-- Declarations in memory. -/
def DcSl (lo : Nat) (w : World) (v : Value) (ds : List Ex) : Prop :=
  ds.length ≤ 8 ∧ ∃ a cap, v = .slice a ds.length cap ∧ ds.length ≤ cap ∧ (ds = [] ∨ ∃ b off, a = some ⟨b, off, none⟩ ∧ lo ≤ b ∧ b < w.heap.size ∧ ∀ j d, ds[j]? = some d →
    w.cell? ⟨b, off + j * 4, none⟩ = some (.int .i64 (d.kind : Int)) ∧ w.cell? ⟨b, off + j * 4 + 1, none⟩ = some (.string ⟨d.text.toArray⟩) ∧ w.cell? ⟨b, off + j * 4 + 2, none⟩ = some (.int .i64 d.n) ∧ w.cell? ⟨b, off + j * 4 + 3, none⟩ = some (.int .i64 (d.pl : Int)))
/-- A program in memory. -/
def PrV (lo : Nat) (w : World) (v : Value) (ds es : List Ex) : Prop :=
  ∃ vd vx, v = .agg #[vd, vx] ∧ DcSl lo w vd ds ∧ ExV lo w (exV 0 [] [] 0 0 vx) (.mk 0 [] [] 0 0 es)
theorem DcSl.keep {lo : Nat} {w w' : World} {v : Value} {ds : List Ex} (h : DcSl lo w v ds) (hk : Kept lo w w') : DcSl lo w' v ds := by
  obtain ⟨h1, a, cap, e, g, h⟩ := h
  refine ⟨h1, a, cap, e, g, ?_⟩
  rcases h with h | ⟨b, off, e1, e0, e2, e3⟩
  · exact Or.inl h
  · refine Or.inr ⟨b, off, e1, e0, Nat.lt_of_lt_of_le e2 hk.size, fun j d hj => ?_⟩
    obtain ⟨c0, c1, c2, c3⟩ := e3 j d hj
    have eb := hk.block b e0 e2
    exact ⟨(cell_of_block eb).trans c0, (cell_of_block eb).trans c1, (cell_of_block eb).trans c2, (cell_of_block eb).trans c3⟩
theorem DcSl.low {lo lo' : Nat} {w : World} {v : Value} {ds : List Ex} (h : DcSl lo w v ds) (hl : lo' ≤ lo) : DcSl lo' w v ds := by
  obtain ⟨h1, a, cap, e, g, h⟩ := h
  refine ⟨h1, a, cap, e, g, ?_⟩
  rcases h with h | ⟨b, off, e1, e0, e2, e3⟩
  · exact Or.inl h
  · exact Or.inr ⟨b, off, e1, Nat.le_trans hl e0, e2, e3⟩
theorem PrV.keep {lo : Nat} {w w' : World} {v : Value} {ds es : List Ex} (h : PrV lo w v ds es) (hk : Kept lo w w') : PrV lo w' v ds es := by
  obtain ⟨vd, vx, e, h1, h2⟩ := h
  exact ⟨vd, vx, e, h1.keep hk, h2.keep hk⟩
theorem PrV.low {lo lo' : Nat} {w : World} {v : Value} {ds es : List Ex} (h : PrV lo w v ds es) (hl : lo' ≤ lo) : PrV lo' w v ds es := by
  obtain ⟨vd, vx, e, h1, h2⟩ := h
  exact ⟨vd, vx, e, h1.low hl, h2.low hl⟩
def zeroP : Value := .agg #[.slice none 0 0, .slice none 0 0]
theorem PrV.form {lo : Nat} {w : World} {v : Value} {ds es : List Ex} (h : PrV lo w v ds es) : ∃ a c b d, v = .agg #[.slice a ds.length c, .slice b es.length d] := by
  obtain ⟨vd, vx, rfl, ⟨_, a, c, rfl, _⟩, h2⟩ := h
  obtain ⟨b, d, e⟩ := h2.form
  simp only [exV, Value.agg.injEq, Array.mk.injEq, List.cons.injEq, and_true, true_and, Ex.kind, Ex.text, Ex.other, Ex.n, Ex.pl, Ex.kids] at e
  exact ⟨a, c, b, d, by rw [e]⟩

/-- The contract of the reader of a whole program. -/
def ProgK (f : Nat) : Prop :=
  ∀ (Z R en : Nat) (ts : List Tok) (w : World), St Z R en w ts → P en f (.decls 0 []) ts ≠ .out →
    Calls Tryz.prog 37 #[.pointer (some ⟨R, 0, none⟩)] w fun e w' => But R w w' ∧ ((∃ v ds es r, e = .returned v ∧ PrV w.heap.size w' v ds es ∧ P en f (.decls 0 []) ts = .ok (progE ds es) r) ∨
      (∃ c p : Nat, e = .panicked [{ v := .iface 73 (.agg #[.int .i64 c, .int .i64 p]), recovered := false }] ∧ Gone en (P en f (.decls 0 []) ts) c p))
/-- What Parse answers: the program, the error, its place. -/
def ParseA (lo : Nat) (w : World) (v : Value) (c p : Nat) (l : List UInt8) : Prop :=
  match lexT l with
  | .err c' p' => v = zeroP ∧ c = c' ∧ p = p'
  | .ok ts => match parseO l.length ts with
    | .ok X _ => c = 0 ∧ p = 0 ∧ ∃ ds es, X = progE ds es ∧ PrV lo w v ds es
    | .no r => v = zeroP ∧ c = 11 ∧ p = place l.length r
    | .lim q => v = zeroP ∧ c = 15 ∧ p = q
    | .out => False
theorem numV_fold (l : List UInt8) : ∀ n : Nat, l.all digit = true → l.foldl (fun n c => 10 * n + (c.toNat - 48)) n + 1 ≤ (n + 1) * 10 ^ l.length := by
  induction l with
  | nil => intro n _; simp
  | cons c r ih =>
    intro n h
    simp only [List.all_cons, Bool.and_eq_true] at h
    have hc : c.toNat - 48 ≤ 9 := by have := h.1; simp only [digit, Bool.and_eq_true, decide_eq_true_eq] at this; omega
    have := ih (10 * n + (c.toNat - 48)) h.2
    rw [List.foldl_cons, List.length_cons, Nat.pow_succ]
    refine Nat.le_trans this ?_
    rw [show (n + 1) * (10 ^ r.length * 10) = ((n + 1) * 10) * 10 ^ r.length by rw [Nat.mul_comm (10 ^ r.length) 10, ← Nat.mul_assoc]]
    exact Nat.mul_le_mul_right _ (by omega)
theorem good_val {t : Tok} (h : Good t) : t.val ≤ 999999999 := by
  obtain ⟨l, n, hs, _⟩ := h
  obtain ⟨c, r, _, _, _, h⟩ := tok_cases hs
  rcases h with ⟨_, _, _, hv, _⟩ | ⟨_, _, hn, h9, _, _, hv, _⟩ | ⟨_, _, _, _, hv, _⟩ | ⟨_, _, _, _, _, hv, _⟩
  · omega
  · have := numV_fold (l.takeWhile digit) 0 (List.all_takeWhile ..)
    have h2 : (10 : Nat) ^ (l.takeWhile digit).length ≤ 10 ^ 9 := Nat.pow_le_pow_right (by omega) (by omega)
    rw [hv]
    unfold numV
    omega
  · omega
  · omega
theorem lex_fine {l : List UInt8} {ts : List Tok} (h : lexT l = .ok ts) : ∀ t ∈ ts, t.val ≤ 999999999 := by
  intro t ht
  unfold lexT at h
  split at h
  · cases h
  · exact good_val (lexA_good _ _ _ _ _ (Nat.le_refl _) h t ht)

theorem assert48 (v : Value) (w : World) : (Instr.typeAssert (.iface 73 v) 20 73 false).run Tryz.prog w = .ok v w := by
  simp [Instr.typeAssert, run_underlying Tryz.underlying73]

set_option maxHeartbeats 4000000 in
theorem pcatch_panicking (p : Nat) (v0 v1 : Value) (x1 x2 : Int) (c q : Nat) (older : List PanicEntry) (w : World)
    (h0 : w.heap[p]? = some (.cells #[v0, v1] 25 (0, 0))) (h1 : w.heap[p + 1]? = some (.cells #[.int .i64 x1] 28 (0, 0))) (h2 : w.heap[p + 2]? = some (.cells #[.int .i64 x2] 3 (0, 0))) :
    CallsD Tryz.prog 36 #[.pointer (some ⟨p, 0, none⟩), .pointer (some ⟨p + 1, 0, none⟩), .pointer (some ⟨p + 2, 0, none⟩)] (.panicking ({ v := .iface 73 (.agg #[.int .i64 (c : Int), .int .i64 (q : Int)]), recovered := false } :: older)) w fun e u' w' =>
      e = .returned (.tuple #[]) ∧ u' = .panicking ({ v := .iface 73 (.agg #[.int .i64 (c : Int), .int .i64 (q : Int)]), recovered := true } :: older) ∧
      w'.cell? ⟨p, 0, none⟩ = some (.slice none 0 0) ∧ w'.cell? ⟨p, 1, none⟩ = some (.slice none 0 0) ∧ w'.cell? ⟨p + 1, 0, none⟩ = some (.int .i64 (c : Int)) ∧ w'.cell? ⟨p + 2, 0, none⟩ = some (.int .i64 (q : Int)) ∧ Below p w w' := by
  refine callsD_of_wpS Tryz.func36 rfl fun c₀ cs hu => ?_
  apply wpS_seq
  apply wpS_region
  simp [wpOpsS, go_sem, recoverD, hu, Tryz.ntmps36, Exit.thenS]
  refine wpS_of_wp ?_
  rw [show #[Value.pointer (some ⟨p, 0, none⟩), Value.pointer (some ⟨p + 1, 0, none⟩), Value.pointer (some ⟨p + 2, 0, none⟩)] ++ ((Array.replicate 12 undef).setIfInBounds 2 (Value.iface 73 (Value.agg #[Value.int IntKind.i64 (c : Int), Value.int IntKind.i64 (q : Int)]))).setIfInBounds 0 (Value.iface 73 (Value.agg #[Value.int IntKind.i64 (c : Int), Value.int IntKind.i64 (q : Int)])) =
    #[Value.pointer (some ⟨p, 0, none⟩), Value.pointer (some ⟨p + 1, 0, none⟩), Value.pointer (some ⟨p + 2, 0, none⟩), Value.iface 73 (Value.agg #[Value.int IntKind.i64 (c : Int), Value.int IntKind.i64 (q : Int)]), undef, Value.iface 73 (Value.agg #[Value.int IntKind.i64 (c : Int), Value.int IntKind.i64 (q : Int)]), undef, undef, undef, undef, undef, undef, undef, undef, undef] from rfl]
  have e0 : w.cell? ⟨p, 0, none⟩ = some v0 := by simp [World.cell?, h0]
  have e01 : w.cell? ⟨p, 1, none⟩ = some v1 := by simp [World.cell?, h0]
  have e1 : w.cell? ⟨p + 1, 0, none⟩ = some (.int .i64 x1) := by simp [World.cell?, h1]
  have e2 : w.cell? ⟨p + 2, 0, none⟩ = some (.int .i64 x2) := by simp [World.cell?, h2]
  have f0 : w.frozen? ⟨p, 0, none⟩ = false := by simp [World.frozen?, h0]
  have f01 : w.frozen? ⟨p, 1, none⟩ = false := by simp [World.frozen?, h0]
  have f1 : w.frozen? ⟨p + 1, 0, none⟩ = false := by simp [World.frozen?, h1]
  have f2 : w.frozen? ⟨p + 2, 0, none⟩ = false := by simp [World.frozen?, h2]
  have l0 : p < w.heap.size := lt_of_block h0
  have l1 : p + 1 < w.heap.size := lt_of_block h1
  have l2 : p + 2 < w.heap.size := lt_of_block h2
  clear h0 h1 h2
  have ha := assert48
  go_wp2
  go_region
  refine ⟨rfl, _, rfl, .tuple #[], results_none rfl _ _ _, rfl, rfl, ?_, ?_, ?_, ?_, ?_⟩
  · go_simp
  · go_simp
  · go_simp
  · go_simp
  · exact ((((((Below.refl p w).setCell (p := ⟨p, 0, none⟩) (Nat.le_refl p) _).setCell (p := ⟨p, 1, none⟩) (Nat.le_refl p) _).setCell (p := ⟨p + 1, 0, none⟩) (Nat.le_succ p) _).setCell (p := ⟨p + 2, 0, none⟩) (Nat.le_add_right p 2) _).alloc (by simp; omega) _).drew
theorem pcatch_idle (a b c : Value) (w : World) :
    CallsD Tryz.prog 36 #[a, b, c] .returning w fun e u' w' => e = .returned (.tuple #[]) ∧ u' = .returning ∧ w' = w := by
  refine callsD_of_wpS Tryz.func36 rfl fun c₀ cs hu => ?_
  apply wpS_seq
  apply wpS_region
  simp [wpOpsS, go_sem, recoverD, hu, Tryz.ntmps36, Exit.thenS]
  apply wpS_seq
  apply wpS_region
  simp [wpOpsS, go_sem, Exit.thenS]
  refine wpS_cond (t := false) (by simp [Act.eval, Array.replicate]) ?_
  simp only [Bool.false_eq_true, if_false]
  refine wpS_of_wp (wp_skip ?_)
  cases c₀
  simp_all [bodyPostS, results, Tryz.results36]
theorem block2_cell {w : World} {k t : Nat} {u v : Value} (h : w.heap[k]? = some (.cells #[u, v] t (0, 0))) : w.cell? ⟨k, 0, none⟩ = some u ∧ w.cell? ⟨k, 1, none⟩ = some v ∧ w.frozen? ⟨k, 0, none⟩ = false ∧ w.frozen? ⟨k, 1, none⟩ = false :=
  ⟨by simp [World.cell?, h], by simp [World.cell?, h], by simp [World.frozen?, h], by simp [World.frozen?, h]⟩
theorem lexF_err (f : Nat) : ∀ (l : List UInt8) (p k c q : Nat), lexF f l p k = .err c q → c = 10 ∨ c = 15 := by
  induction f with
  | zero => intro l p k c q h; cases h
  | succ f ih =>
    intro l p k c q h
    unfold lexF at h
    split at h
    · cases h
    · cases hs : stepL l with
      | bad => rw [hs] at h; simp only [Res.err.injEq] at h; omega
      | skip n => rw [hs] at h; exact ih _ _ _ _ _ h
      | tok kd v n =>
        rw [hs] at h
        simp only at h
        split at h
        · simp only [Res.err.injEq] at h; omega
        · cases hr : lexF f (l.drop n) (p + n) (k + 1) with
          | ok us => rw [hr] at h; cases h
          | err c' q' =>
            rw [hr] at h
            simp only [Res.cons, Res.err.injEq] at h
            rw [← h.1]
            exact ih _ _ _ _ _ hr
theorem lex_err {l : List UInt8} {c p : Nat} (h : lexT l = .err c p) : c = 10 ∨ c = 15 := by
  unfold lexT at h
  split at h
  · simp only [Res.err.injEq] at h; omega
  · exact lexF_err _ _ _ _ _ _ h
set_option maxHeartbeats 4000000 in
theorem parse_lexed (C : LexC) (s : ByteArray) (hs : s.size ≤ 140737488351232) (w : World) (c p : Nat) (hl : lexT s.data.toList = .err c p) :
    Calls Tryz.prog 15 #[.string s] w fun e w' => e = .returned (.tuple #[zeroP, .int .i64 (c : Int), .int .i64 (p : Int)]) ∧ Below w.heap.size w w' := by
  have hmf : ∀ (fn : Fn) (first cap : Array Value) (w : World), (Instr.makeFunc fn first cap).run Tryz.prog w = .ok (.func fn first cap) w := fun _ _ _ _ => rfl
  have hT := fun W => tokens_at C s W hs
  rw [hl] at hT
  have HT : Hid (∀ W : World, Calls Tryz.prog 14 #[.string s] W fun e w' => (∃ v, e = .returned (.tuple #[v, .int .i64 (c : Int), .int .i64 (p : Int)]) ∧ TokSl w' v []) ∧ Below W.heap.size W w') := hT
  have hc : ((c : Int) == 0) = false := by have := lex_err hl; rw [beq_eq_false_iff_ne]; omega
  clear hT hl
  go_enter_defers Tryz.func15, Tryz.ntmps15
  go_wp2_with (go_at_call 14; refine (HT.out _).mono ?_; rintro e w1 ⟨⟨v, rfl, hv⟩, hb1⟩; obtain ⟨_, va, vc, rfl, _⟩ := hv; have hk := three_kept hb1 (Below.refl _ _); have c0 := block2_cell hk.1; have c1 := block_cell hk.2.1; have c2 : w1.cell? ⟨w.heap.size + 1 + 1, 0, none⟩ = some (.int .i64 0) ∧ w1.frozen? ⟨w.heap.size + 1 + 1, 0, none⟩ = false := block_cell hk.2.2.1; have HK := Hid.intro hk; have HB1 := Hid.intro hb1; clear hk hb1; obtain ⟨c00, c01, f00, f01⟩ := c0; obtain ⟨c10, f10⟩ := c1; obtain ⟨c20, f20⟩ := c2)
  refine leaves_cons (f := 36) (args := #[.pointer (some ⟨w.heap.size, 0, none⟩), .pointer (some ⟨w.heap.size + 1, 0, none⟩), .pointer (some ⟨w.heap.size + 1 + 1, 0, none⟩)]) (by simp) (by simp [go_sem]) ?_
  refine (pcatch_panicking w.heap.size (.slice none 0 0) (.slice none 0 0) c p c p [] _ ?_ ?_ ?_).mono ?_
  · exact hs_other (by dsimp only; omega) (hs_other (by dsimp only; omega) HK.out.1)
  · exact hs_other (by dsimp only; omega) (one_setCell HK.out.2.1)
  · exact one_setCell (hs_other (by dsimp only; omega) HK.out.2.2.1)
  rintro e u' w'' ⟨rfl, rfl, d0, d1, d2, d3, hb3⟩
  simp [Leaves, settle, results, Tryz.results15, go_sem, d0, d1, d2, d3, zeroP]
  exact ((HK.out.2.2.2.setCell (p := ⟨w.heap.size + 1, 0, none⟩) (by dsimp only; omega) _).setCell (p := ⟨w.heap.size + 1 + 1, 0, none⟩) (by dsimp only; omega) _).trans hb3
theorem But.toBelow {R n : Nat} {a b : World} (h : But R a b) (hn : n ≤ a.heap.size) (hR : n ≤ R) : Below n a b := ⟨h.os, h.tape, h.output, h.size, fun k hk => h.block k (by omega) (by omega)⟩
/-- The reader as Parse lays it. -/
theorem st_new {W : World} {b : List UInt8} {base : Nat} {v : Value} {ts : List Tok} {en : Nat} (hR : W.ownsRow base 107 4 v ts.length (cellsT ts)) (hn : ts.length ≤ 1500) (hf : lexT b = .ok ts) : ∀ W' : World, (∀ k, base ≤ k → k < W.heap.size → W'.heap[k]? = W.heap[k]?) → W'.heap.size = W.heap.size → St (W.heap.size + 1) W.heap.size en (W'.alloc (.cells #[v, .int .i64 (en : Int)] 75)) ts := by
  intro W' hW hsz
  have hT := row_tok hR hn
  have hbs : ∀ g off, (∃ n c, v = .slice (some ⟨g, off, none⟩) n c) → base ≤ g := by
    rintro g off ⟨n, c, rfl⟩
    exact row_base hR rfl
  obtain ⟨hl, a, cap, rfl, hc, hm, ht⟩ := hT
  have hnw := heap_alloc_new W' (.cells #[.slice a ts.length cap, .int .i64 (en : Int)] 75)
  rw [hsz] at hnw
  refine ⟨by simp; omega, by omega, lex_fine hf, a, cap, hnw, hc, hm, hl, ?_⟩
  rcases ht with ht | ⟨g, off, rfl, hg, ht⟩
  · exact Or.inl ht
  · refine Or.inr ⟨g, off, rfl, by omega, by omega, fun j t hj => ?_⟩
    have h4 : TokAt W g (off + j * 4) t := ht j t hj
    exact h4.keep ((Below.heap_alloc _ _ _ (by omega)).trans (hW g (hbs g off ⟨_, _, rfl⟩) hg))
theorem lex_parts {l : List UInt8} {ts : List Tok} (h : lexT l = .ok ts) : l.length ≤ 8192 ∧ lexA l 0 0 = .ok ts ∧ ts.length ≤ 1500 := by
  have h2 := h
  unfold lexT at h2
  split at h2
  · cases h2
  · have h3 : lexA l 0 0 = .ok ts := h2
    have := lexA_count _ _ 0 0 ts (Nat.le_refl _) (by omega) h3
    exact ⟨by omega, h3, by omega⟩
set_option maxHeartbeats 8000000 in
theorem parse_read {f : Nat} (K : ProgK f) (s : ByteArray) (w : World) (ts : List Tok) (hl : lexT s.data.toList = .ok ts) (hf : P s.size f (.decls 0 []) ts ≠ .out) :
    Calls Tryz.prog 15 #[.string s] w fun e w' => ((∃ v ds es r, e = .returned (.tuple #[v, .int .i64 0, .int .i64 0]) ∧ PrV w.heap.size w' v ds es ∧ P s.size f (.decls 0 []) ts = .ok (progE ds es) r) ∨ (∃ c p : Nat, e = .returned (.tuple #[zeroP, .int .i64 (c : Int), .int .i64 (p : Int)]) ∧ Gone s.size (P s.size f (.decls 0 []) ts) c p)) ∧ Below w.heap.size w w' := by
  have hmf : ∀ (fn : Fn) (first cap : Array Value) (w : World), (Instr.makeFunc fn first cap).run Tryz.prog w = .ok (.func fn first cap) w := fun _ _ _ _ => rfl
  obtain ⟨h82, hA, hn⟩ := lex_parts hl
  rw [← Lib.size_eq] at h82
  have HT : Hid (∀ W : World, Calls Tryz.prog 14 #[.string s] W fun e w' => (∃ v, e = .returned (.tuple #[v, .int .i64 0, .int .i64 0]) ∧ w'.ownsRow W.heap.size 107 4 v ts.length (cellsT ts)) ∧ Below W.heap.size W w') := fun W => tokens_ok s W h82 ts hA
  have HL := Hid.intro hl
  have HN := Hid.intro hn
  have HF := Hid.intro hf
  have HKP := Hid.intro K
  clear hl hf K hA hn
  go_enter_defers Tryz.func15, Tryz.ntmps15
  go_wp2_with (go_at_call 14; refine (HT.out _).mono ?_; rintro e w1 ⟨⟨v, rfl, hv⟩, hb1⟩; obtain ⟨va, vc, rfl⟩ := row_len hv; have HV := Hid.intro hv; clear hv; have hk := three_kept hb1 (Below.refl _ _); have c0 := block2_cell hk.1; have c1 := block_cell hk.2.1; have c2 : w1.cell? ⟨w.heap.size + 1 + 1, 0, none⟩ = some (.int .i64 0) ∧ w1.frozen? ⟨w.heap.size + 1 + 1, 0, none⟩ = false := block_cell hk.2.2.1; have HK := Hid.intro hk; have HB1 := Hid.intro hb1; have l1 := hb1.size; (try simp at l1); clear hk hb1; obtain ⟨c00, c01, f00, f01⟩ := c0; obtain ⟨c10, f10⟩ := c1; obtain ⟨c20, f20⟩ := c2)
  refine (HKP.out (w1.heap.size + 1) w1.heap.size s.size ts _ (st_new HV.out HN.out HL.out _ (fun k hk1 hk2 => by
    simp at hk1
    rw [Below.heap_setCell _ _ _ _ (by dsimp only; omega), Below.heap_setCell _ _ _ _ (by dsimp only; omega)]) (by simp)) HF.out).mono ?_
  rintro e w2 ⟨hb2, ⟨v, ds, es, r, rfl, hp, hP⟩ | ⟨c, p, rfl, hG⟩⟩
  rotate_left
  · have k0 : w2.heap[w.heap.size]? = some (.cells #[.slice none 0 0, .slice none 0 0] 25 (0, 0)) := (hb2.block _ (by simp; omega) (by omega)).trans (ha_old (hs_other (by dsimp only; omega) (hs_other (by dsimp only; omega) HK.out.1)))
    have k1 : w2.heap[w.heap.size + 1]? = some (.cells #[.int .i64 0] 28 (0, 0)) := (hb2.block _ (by simp; omega) (by omega)).trans (ha_old (hs_other (by dsimp only; omega) (one_setCell HK.out.2.1)))
    have k2 : w2.heap[w.heap.size + 2]? = some (.cells #[.int .i64 0] 3 (0, 0)) := (hb2.block _ (by simp; omega) (by omega)).trans (ha_old (one_setCell (hs_other (by dsimp only; omega) HK.out.2.2.1)))
    refine leaves_cons (f := 36) (args := #[.pointer (some ⟨w.heap.size, 0, none⟩), .pointer (some ⟨w.heap.size + 1, 0, none⟩), .pointer (some ⟨w.heap.size + 1 + 1, 0, none⟩)]) (by simp) (by simp [go_sem]) ?_
    refine (pcatch_panicking w.heap.size (.slice none 0 0) (.slice none 0 0) 0 0 c p [] _ k0 k1 k2).mono ?_
    rintro e u' w'' ⟨rfl, rfl, d0, d1, d2, d3, hb3⟩
    simp [Leaves, settle, results, Tryz.results15, go_sem, d0, d1, d2, d3, zeroP]
    exact ⟨Or.inr ⟨c, p, ⟨rfl, rfl⟩, hG⟩, ((((HK.out.2.2.2.setCell (p := ⟨w.heap.size + 1, 0, none⟩) (by dsimp only; omega) _).setCell (p := ⟨w.heap.size + 1 + 1, 0, none⟩) (by dsimp only; omega) _).alloc (by simp; omega) _).trans (hb2.toBelow (by simp; omega) (by omega))).trans hb3⟩
  · have k0 : w2.heap[w.heap.size]? = some (.cells #[.slice none 0 0, .slice none 0 0] 25 (0, 0)) := (hb2.block _ (by simp; omega) (by omega)).trans (ha_old (hs_other (by dsimp only; omega) (hs_other (by dsimp only; omega) HK.out.1)))
    have k1 : w2.heap[w.heap.size + 1]? = some (.cells #[.int .i64 0] 28 (0, 0)) := (hb2.block _ (by simp; omega) (by omega)).trans (ha_old (hs_other (by dsimp only; omega) (one_setCell HK.out.2.1)))
    have k2 : w2.heap[w.heap.size + 1 + 1]? = some (.cells #[.int .i64 0] 3 (0, 0)) := (hb2.block _ (by simp; omega) (by omega)).trans (ha_old (one_setCell (hs_other (by dsimp only; omega) HK.out.2.2.1)))
    obtain ⟨z00, z01, y00, y01⟩ := block2_cell k0
    obtain ⟨z10, y10⟩ := block_cell k1
    obtain ⟨z20, y20⟩ := block_cell k2
    have l0 := lt_of_block k0
    have l1' := lt_of_block k1
    have l2' := lt_of_block k2
    obtain ⟨pa, pc, pb, pd, rfl⟩ := hp.form
    have HPV := Hid.intro hp
    have HPP := Hid.intro hP
    have HB2 := Hid.intro hb2
    have l2 := hb2.size
    (try simp at l2)
    generalize hdn : ds.length = dn at *
    generalize hen : es.length = en2 at *
    clear hp hP hb2 k0 k1 k2 c00 c01 f00 f01 c10 f10 c20 f20 hdn hen
    go_wp2_with fail
    refine leaves_cons (f := 36) (args := #[.pointer (some ⟨w.heap.size, 0, none⟩), .pointer (some ⟨w.heap.size + 1, 0, none⟩), .pointer (some ⟨w.heap.size + 1 + 1, 0, none⟩)]) (by simp) (by simp [go_sem]) ?_
    refine (pcatch_idle _ _ _ _).mono ?_
    rintro e u' w'' ⟨rfl, rfl, rfl⟩
    have HR0 : Hid (PrV w.heap.size (((((w2.setCell ⟨w.heap.size, 0, none⟩ (.slice pa dn pc)).setCell ⟨w.heap.size, 1, none⟩ (.slice pb en2 pd)).setCell ⟨w.heap.size + 1, 0, none⟩ (.int .i64 0)).setCell ⟨w.heap.size + 1 + 1, 0, none⟩ (.int .i64 0))) (.agg #[.slice pa dn pc, .slice pb en2 pd]) ds es) :=
      Hid.intro ((HPV.out.keep (by
        refine (((Kept.refl _ _).setCell (p := ⟨w.heap.size, 0, none⟩) (Or.inl ?_) _).setCell (p := ⟨w.heap.size, 1, none⟩) (Or.inl ?_) _).setCell (p := ⟨w.heap.size + 1, 0, none⟩) (Or.inl ?_) _ |>.setCell (p := ⟨w.heap.size + 1 + 1, 0, none⟩) (Or.inl ?_) _
        all_goals (simp; omega))).low (by simp; omega))
    have HR1 : Hid (Below w.heap.size w (((((w2.setCell ⟨w.heap.size, 0, none⟩ (.slice pa dn pc)).setCell ⟨w.heap.size, 1, none⟩ (.slice pb en2 pd)).setCell ⟨w.heap.size + 1, 0, none⟩ (.int .i64 0)).setCell ⟨w.heap.size + 1 + 1, 0, none⟩ (.int .i64 0)))) :=
      Hid.intro (((((((((HK.out.2.2.2.setCell (p := ⟨w.heap.size + 1, 0, none⟩) (by dsimp only; omega) _).setCell (p := ⟨w.heap.size + 1 + 1, 0, none⟩) (by dsimp only; omega) _).alloc (by simp; omega) _).trans (HB2.out.toBelow (by simp; omega) (by omega))).setCell (p := ⟨w.heap.size, 0, none⟩) (Nat.le_refl _) _).setCell (p := ⟨w.heap.size, 1, none⟩) (Nat.le_refl _) _).setCell (p := ⟨w.heap.size + 1, 0, none⟩) (by dsimp only; omega) _).setCell (p := ⟨w.heap.size + 1 + 1, 0, none⟩) (by dsimp only; omega) _))
    simp [Leaves, settle, results, Tryz.results15, go_sem, World.cell?_setCell_other, z00, z01, z10, z20]
    exact ⟨Or.inl ⟨ds, es, HR0.out, r, HPP.out⟩, HR1.out⟩
/-- The contract of Parse. -/
structure ParseC : Prop where
  parse : ∀ (s : ByteArray) (w : World), s.size ≤ 140737488351232 → Calls Tryz.prog 15 #[.string s] w fun e w' => (∃ (v : Value) (c p : Nat), e = .returned (.tuple #[v, .int .i64 (c : Int), .int .i64 (p : Int)]) ∧ ParseA w.heap.size w' v c p s.data.toList) ∧ Below w.heap.size w w'
theorem parseC_of (C : LexC) (K : ∀ f, ProgK f) : ParseC where
  parse := fun s w hs => by
    cases hl : lexT s.data.toList with
    | err c p =>
      refine (parse_lexed C s hs w c p hl).mono fun e w' ⟨he, hb⟩ => ⟨⟨_, c, p, he, ?_⟩, hb⟩
      unfold ParseA
      rw [hl]
      exact ⟨rfl, rfl, rfl⟩
    | ok ts =>
      have hP : P s.size (ts.length * 10 + 20) (.decls 0 []) ts = parseO s.data.toList.length ts := by unfold parseO; rw [Lib.size_eq]
      refine (parse_read (K (ts.length * 10 + 20)) s w ts hl (by rw [hP]; exact parseO_ne _ _)).mono fun e w' ⟨h, hb⟩ => ⟨?_, hb⟩
      rw [hP, Lib.size_eq] at h
      unfold ParseA
      rw [hl]
      rcases h with ⟨v, ds, es, r, he, hp, ho⟩ | ⟨c, p, he, hG⟩
      · refine ⟨v, 0, 0, he, ?_⟩
        dsimp only; rw [ho]
        exact ⟨rfl, rfl, ds, es, rfl, hp⟩
      · refine ⟨zeroP, c, p, he, ?_⟩
        rcases hG with ⟨hc, r, ho, hp⟩ | ⟨hc, ho⟩
        · dsimp only; rw [ho]; exact ⟨rfl, hc, hp⟩
        · dsimp only; rw [ho]; exact ⟨rfl, hc, rfl⟩
end Go.Proofs.YtkljakeccfnakaaGreatDoor
