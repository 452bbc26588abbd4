/-
  The walk of the document's own reader of words.
  Words in memory, and the walk of the document's own comparison of two lists of them.
  Plain facts: a text is a name just if it is one word of that kind; no program is named here.
  What the program's own functions of layer 4 are to answer, as contracts, and the walks of statements over them.
  The document's own reader of words keeps its contract.
-/
import Derived.Test.YtjndknnjboffbaaGreatDoorMm
import Derived.BigRegion
import Derived.RegionTactic
import Derived.Deep.CutRange
import Derived.Deep.CutBlock
import Derived.Laws.StructEq
import Derived.WalkSmall
namespace Go.Proofs.YtjndknnjboffbaaGreatDoor
open Go.RowKit

def encT (t : Tok) : List Value := [.int .i64 t.kind, .string ⟨t.text.toArray⟩, .int .i64 t.val, .int .i64 t.pos]
def cellsT (ts : List Tok) : List Value := ts.flatMap encT
theorem cellsT_len (ts : List Tok) : (cellsT ts).length = ts.length * 4 := by
  induction ts with
  | nil => rfl
  | cons t r ih => show (encT t ++ cellsT r).length = _; rw [List.length_append, ih]; simp [encT]; omega
theorem cellsT_add (ts : List Tok) (t : Tok) : cellsT (ts ++ [t]) = cellsT ts ++ encT t := by unfold cellsT; simp
def Res.app (ts : List Tok) : Res → Res
  | .ok l => .ok (ts ++ l)
  | .err c p => .err c p
theorem app_nil (r : Res) : Res.app [] r = r := by cases r <;> rfl
theorem app_cons (ts : List Tok) (t : Tok) (r : Res) : Res.app ts (r.cons t) = Res.app (ts ++ [t]) r := by
  cases r with
  | ok l => show Res.ok (ts ++ t :: l) = .ok (ts ++ [t] ++ l); simp
  | err c p => rfl

/-- An answer in memory: the words, or a fault and its place. -/
def TokAns (base : Nat) (w : World) (v : Value) (a b : Int) : Res → Prop
  | .ok ts => a = 0 ∧ b = 0 ∧ w.ownsRow base 85 4 v ts.length (cellsT ts)
  | .err c p => v = .slice none 0 0 ∧ a = c ∧ b = p
theorem row_len {w : World} {base n : Nat} {v : Value} {xs : List Value} (h : w.ownsRow base 85 4 v n xs) : ∃ a cap, v = .slice a n cap := by
  rcases h.2 with ⟨rfl, rfl⟩ | ⟨g, cap, cur, rfl, _⟩
  · exact ⟨none, 0, rfl⟩
  · exact ⟨_, cap, rfl⟩
theorem row_base {w : World} {base e size n k : Nat} {v : Value} {xs : List Value} (h : w.ownsRow base e size v n xs) (hk : v.ownBlock = some k) : base ≤ k := by
  rcases h.2 with ⟨rfl, _⟩ | ⟨g, cap, cur, rfl, h2, _⟩
  · cases hk
  · simp only [Value.ownBlock, Option.some.injEq] at hk
    omega
theorem row_alloc {w : World} {base e size n : Nat} {v : Value} {xs : List Value} (h : w.ownsRow base e size v n xs) (o : Obj) : (w.alloc o).ownsRow base e size v n xs :=
  h.kept (World.grownBy_alloc w o none) (by cases v.ownBlock <;> simp)
theorem bel_drewN {B : Nat} {a w : World} (h : Below B a w) (n : Nat) : Below B a (w.drewN n) := h.trans ⟨rfl, rfl, rfl, Nat.le_refl _, fun _ _ => rfl⟩
theorem cell_new {w : World} {cs : List Value} {t g z : Nat} {u : Value} (hg : g = w.heap.size) (h : cs[z]? = some u) : (w.alloc (.cells cs.toArray t)).cell? ⟨g, 0 + z, none⟩ = some u := by
  subst hg
  have e : (w.alloc (.cells cs.toArray t)).heap[w.heap.size]? = some (.cells cs.toArray t) := heap_alloc_new w _
  simp only [World.cell?, e]
  rw [Nat.zero_add]; simpa using h
theorem row_num {w w1 : World} {base e size n : Nat} {v u : Value} {xs : List Value} {o : Obj} {k : Nat} (h : w.ownsRow base e size v n xs) (hb : Below w.heap.size w w1) : ((w1.setCell ⟨w.heap.size, k, none⟩ u).alloc o).ownsRow base e size v n xs := by
  refine row_alloc ?_ o
  obtain ⟨h1, h2⟩ := h
  refine ⟨h1, ?_⟩
  rcases h2 with h2 | ⟨g, cap, cur, e1, e2, e3, e4⟩
  · exact Or.inl h2
  · have hg := lt_of_block e3
    refine Or.inr ⟨g, cap, cur, e1, e2, ?_, e4⟩
    rw [heap_setCell_other _ _ _ _ (show g ≠ w.heap.size by omega)]
    exact (hb.block g hg).trans e3
/-- A word under way, in a block of its own. -/
def OwnT (w : World) (g : Nat) (k : Int) (n i : Nat) : Prop := w.heap[g]? = some (.cells #[.int .i64 k, .string ⟨#[]⟩, .int .i64 (n : Int), .int .i64 (i : Int)] 85 (0, 0))
theorem own_new (w : World) (k : Int) (i : Nat) : OwnT (w.alloc (.cells #[.int .i64 k, .string ⟨#[]⟩, .int .i64 0, .int .i64 i] 85)) w.heap.size k 0 i := by unfold OwnT; show (Array.push _ _)[_]? = _; exact Array.getElem?_push_size
theorem OwnT.cells {w : World} {g : Nat} {k : Int} {n i : Nat} (h : OwnT w g k n i) : w.cell? ⟨g, 0, none⟩ = some (.int .i64 k) ∧ w.cell? ⟨g, 1, none⟩ = some (.string ⟨#[]⟩) ∧ w.cell? ⟨g, 2, none⟩ = some (.int .i64 (n : Int)) ∧ w.cell? ⟨g, 3, none⟩ = some (.int .i64 (i : Int)) := by
  unfold OwnT at h
  refine ⟨?_, ?_, ?_, ?_⟩ <;> simp [World.cell?, h]
theorem OwnT.free {w : World} {g : Nat} {k : Int} {n i : Nat} (h : OwnT w g k n i) (x : Nat) : w.frozen? ⟨g, x, none⟩ = false := by
  unfold OwnT at h
  simp [World.frozen?, h]
theorem OwnT.lt {w : World} {g : Nat} {k : Int} {n i : Nat} (h : OwnT w g k n i) : g < w.heap.size := lt_of_block h
theorem OwnT.val {w : World} {g : Nat} {k : Int} {n i : Nat} (h : OwnT w g k n i) (m : Nat) : OwnT (w.setCell ⟨g, 2, none⟩ (.int .i64 (m : Int))) g k m i := by
  unfold OwnT at *
  rw [heap_setCell_same w g 2 _ 85 _ h]
  rfl
theorem Tryz.info85 : (Tryz.prog.info? 85).map (fun i => (i.zero, i.size, i.bytes)) = some (some (.agg #[.int .i64 0, .string ⟨#[]⟩, .int .i64 0, .int .i64 0]), 4, 40) := by kernel_rfl
theorem info32 : ∃ i0, Tryz.prog.info? 85 = some i0 ∧ i0.zero = some (.agg #[.int .i64 0, .string ⟨#[]⟩, .int .i64 0, .int .i64 0]) ∧ i0.size = 4 ∧ i0.bytes = 40 := by
  have h := Tryz.info85
  cases e : Tryz.prog.info? 85 with
  | none => rw [e] at h; cases h
  | some i =>
    rw [e] at h
    simp only [Option.map_some, Option.some.injEq, Prod.mk.injEq] at h
    exact ⟨i, rfl, h.1, h.2.1, h.2.2⟩
theorem int_ne {c : UInt8} {k : Nat} (h : ¬ c.toNat = k) : (((c.toNat : Nat) : Int) == (k : Int)) = false := by rw [beq_eq_false_iff_ne]; omega
theorem int_eq {c : UInt8} {k : Nat} (h : c.toNat = k) : (((c.toNat : Nat) : Int) == (k : Int)) = true := by rw [beq_iff_eq]; omega
theorem blank_no {c : UInt8} (h : blank c = false) : ¬ c.toNat = 32 ∧ ¬ c.toNat = 9 ∧ ¬ c.toNat = 10 ∧ ¬ c.toNat = 13 := by
  unfold blank at h
  simp only [Bool.or_eq_false_iff, decide_eq_false_iff_not] at h
  omega
theorem ext_txt (s : ByteArray) (i j : Nat) : s.extract i j = ⟨((s.data.toList.drop i).take (j - i)).toArray⟩ := Lib.extract_eq s i j
theorem name_ext (s : ByteArray) (i : Nat) : ∀ c ∈ (s.extract i (upTo nameC s.data.toList i)).data.toList, not32 c = true := by
  intro c hc
  rw [Lib.extract_data, upTo_sub, ← takeWhile_take] at hc
  exact name_not32 ((List.all_eq_true.1 (List.all_takeWhile (p := nameC))) c hc)

end Go.Proofs.YtjndknnjboffbaaGreatDoor

namespace Go.Proofs.YtjndknnjboffbaaGreatDoor
open Go.RowKit

/-- The value v is a slice of the words ts in the world w. -/
def TokSl (w : World) (v : Value) (ts : List Tok) : Prop :=
  ts.length ≤ 1500 ∧ ∃ a cap, v = .slice a ts.length cap ∧ ts.length ≤ cap ∧ cap ≤ maxLen ∧ (ts = [] ∨ ∃ b off, a = some ⟨b, off, none⟩ ∧ b < w.heap.size ∧ ∀ j t, ts[j]? = some t →
    w.cell? ⟨b, off + j * 4, none⟩ = some (.int .i64 t.kind) ∧ w.cell? ⟨b, off + j * 4 + 1, none⟩ = some (.string ⟨t.text.toArray⟩) ∧ w.cell? ⟨b, off + j * 4 + 2, none⟩ = some (.int .i64 t.val) ∧ w.cell? ⟨b, off + j * 4 + 3, none⟩ = some (.int .i64 t.pos))
theorem TokSl.below {w w' : World} {v : Value} {ts : List Tok} (h : TokSl w v ts) (hb : Below w.heap.size w w') : TokSl w' v ts := by
  obtain ⟨l, a, cap, e, g, g2, h⟩ := h
  refine ⟨l, a, cap, e, g, g2, ?_⟩
  rcases h with h | ⟨b, off, e1, e2, e3⟩
  · exact Or.inl h
  · refine Or.inr ⟨b, off, e1, Nat.lt_of_lt_of_le e2 hb.size, fun j t hj => ?_⟩
    obtain ⟨c0, c1, c2, c3⟩ := e3 j t hj
    exact ⟨(hb.cell (p := ⟨b, _, none⟩) e2).trans c0, (hb.cell (p := ⟨b, _, none⟩) e2).trans c1, (hb.cell (p := ⟨b, _, none⟩) e2).trans c2, (hb.cell (p := ⟨b, _, none⟩) e2).trans c3⟩

/-- Two words held against each other. -/
def sameB (t u : Tok) : Bool := ((t.kind : Int) == (u.kind : Int)) && ((t.text == u.text) && (((t.val : Int) == (u.val : Int)) && ((t.pos : Int) == (u.pos : Int))))
theorem sameB_iff (t u : Tok) : sameB t u = true ↔ t = u := by
  obtain ⟨a, b, c, d⟩ := t
  obtain ⟨a', b', c', d'⟩ := u
  unfold sameB
  simp only [Bool.and_eq_true, beq_iff_eq, Tok.mk.injEq]
  constructor
  · rintro ⟨h1, h2, h3, h4⟩; exact ⟨by omega, h2, by omega, by omega⟩
  · rintro ⟨h1, h2, h3, h4⟩; exact ⟨by omega, h2, by omega, by omega⟩
theorem eq32 (t u : Tok) (w : World) : (Op.equalIn 10000 85 (.agg #[.int .i64 t.kind, .string ⟨t.text.toArray⟩, .int .i64 t.val, .int .i64 t.pos]) (.agg #[.int .i64 u.kind, .string ⟨u.text.toArray⟩, .int .i64 u.val, .int .i64 u.pos])).run Tryz.prog w = .ok (sameB t u) w := by
  have u3 := Tryz.underlying3
  have u9 := Tryz.underlying9
  have a3 := Tryz.isAgg3
  have z3 := Tryz.sizeOf3
  have a9 := Tryz.isAgg9
  have z9 := Tryz.sizeOf9
  have hS : Tryz.prog.underlying 85 = some (.struct (Tryz.prog.fieldsOf 85)) := by kernel_rfl
  rw [show (10000 : Nat) = 9999 + 1 from rfl, run_equalIn_agg w 9999 85 _ _ hS (by kernel_rfl)]
  simp only [Program.fieldsOf, Tryz.underlying85]
  go_simp
  unfold sameB
  by_cases h1 : (t.kind : Int) = (u.kind : Int) <;> by_cases h2 : t.text = u.text <;> by_cases h3 : (t.val : Int) = (u.val : Int) <;> by_cases h4 : (t.pos : Int) = (u.pos : Int) <;> simp [h1, h2, h3, h4]

end Go.Proofs.YtjndknnjboffbaaGreatDoor

namespace Go.Proofs.YtjndknnjboffbaaGreatDoor

theorem tw_all {p : UInt8 → Bool} {l : List UInt8} (h : l.all p = true) : l.takeWhile p = l := by
  induction l with
  | nil => rfl
  | cons c r ih =>
    simp only [List.all_cons, Bool.and_eq_true] at h
    rw [List.takeWhile_cons_of_pos h.1, ih h.2]
theorem small_blank {c : UInt8} (h : small c = true) : blank c = false ∧ ¬ c.toNat = 35 := by
  unfold small at h
  simp only [Bool.and_eq_true, decide_eq_true_iff] at h
  unfold blank
  simp only [Bool.or_eq_false_iff, decide_eq_false_iff_not]
  omega
theorem name_lex {l : List UInt8} (h : isNameB l = true) : lexT l = .ok [⟨1, l, 0, 0⟩] := by
  unfold isNameB at h
  simp only [Bool.and_eq_true, decide_eq_true_iff, Bool.not_eq_true'] at h
  obtain ⟨⟨⟨h1, h2⟩, h3⟩, h4⟩ := h
  cases l with
  | nil => simp [firstB] at h1
  | cons c r =>
    have hs : small c = true := by simpa [firstB] using h1
    have hb := small_blank hs
    have ht := tw_all h2
    have st : stepL (c :: r) = .tok 1 0 (c :: r).length := by
      refine tok_of rfl hb.1 hb.2 (Or.inl ⟨hs, by rw [ht], h3, rfl, ?_⟩)
      rw [ht, h4]; rfl
    unfold lexT
    rw [if_neg (by omega)]
    show lexA (c :: r) 0 0 = _
    rw [lexA_tok st 0 (by omega), List.drop_length, lexA_nil, List.take_length]; rfl
theorem lex_name {l : List UInt8} (h : lexT l = .ok [⟨1, l, 0, 0⟩]) : isNameB l = true := by
  unfold lexT at h
  by_cases hl : 8192 < l.length
  · rw [if_pos hl] at h; cases h
  · rw [if_neg hl] at h
    have h' : lexA l 0 0 = .ok [⟨1, l, 0, 0⟩] := h
    have hne : l ≠ [] := fun e => by subst e; rw [lexA_nil] at h'; cases h'
    cases hs : stepL l with
    | bad => rw [lexA_bad hne hs] at h'; cases h'
    | skip n =>
      have hn := step_len hs
      rw [lexA_skip hs] at h'
      have := lexA_pos _ _ _ _ _ (Nat.le_refl _) h' ⟨1, l, 0, 0⟩ (by simp)
      have := this.1
      simp only at this
      omega
    | tok kd v n =>
      have hn := tok_len hs
      rw [lexA_tok hs 0 (by omega)] at h'
      cases hr : lexA (l.drop n) (0 + n) (0 + 1) with
      | err c q => rw [hr] at h'; cases h'
      | ok us =>
        rw [hr] at h'
        simp only [Res.cons, Res.ok.injEq, List.cons.injEq, Tok.mk.injEq] at h'
        obtain ⟨⟨rfl, ht, _, _⟩, _⟩ := h'
        have hnl : n = l.length := by
          have := congrArg List.length ht
          rw [List.length_take] at this; omega
        obtain ⟨c, r, e, _, _, hc⟩ := tok_cases hs
        rcases hc with ⟨a, b, d, f, g⟩ | ⟨_, _, _, _, _, _, _, hk⟩ | ⟨_, _, _, _, _, hk⟩ | ⟨_, _, _, _, _, _, hk⟩
        · have hw : l.takeWhile nameC = l := by
            rw [takeWhile_take, ← b, hnl, List.take_length]
          have hk : keyB l = false := by
            rw [hw] at g
            cases hk : keyB l
            · rfl
            · rw [hk] at g; simp at g
          unfold isNameB
          rw [hk]
          have h1 : firstB l = true := by rw [e]; simpa [firstB] using a
          have h2 : l.all nameC = true := by
            have := List.all_takeWhile (p := nameC) (l := l)
            rwa [hw] at this
          rw [h1, h2, decide_eq_true (show l.length ≤ 16 by omega)]; rfl
        · omega
        · omega
        · omega
end Go.Proofs.YtjndknnjboffbaaGreatDoor

namespace Go.Proofs.YtjndknnjboffbaaGreatDoor
open Go.RowKit

/-- An answer as it is read: the words, or a fault and its place. -/
def Ans (w : World) (v : Value) (a b : Int) : Res → Prop
  | .ok ts => a = 0 ∧ b = 0 ∧ TokSl w v ts
  | .err c p => a = c ∧ b = p ∧ TokSl w v []
def lexC (r : Res) : Int := match r with | .ok _ => 0 | .err c _ => c
def lexP (r : Res) : Int := match r with | .ok _ => 0 | .err _ p => p
def lexTs (r : Res) : List Tok := match r with | .ok ts => ts | .err _ _ => []
theorem Ans.parts {w : World} {v : Value} {a b : Int} {r : Res} (h : Ans w v a b r) : a = lexC r ∧ b = lexP r ∧ TokSl w v (lexTs r) := by
  cases r with
  | ok ts => exact h
  | err c p => exact h

structure LexC : Prop where
  tokens : ∀ (s : ByteArray) (w : World), s.size ≤ 140737488351232 → Calls Tryz.prog 13 #[.string s] w fun e w' => (∃ v a b, e = .returned (.tuple #[v, .int .i64 a, .int .i64 b]) ∧ Ans w' v a b (lexT s.data.toList)) ∧ Below w.heap.size w w'
theorem tokens_at (C : LexC) (s : ByteArray) (w : World) (hs : s.size ≤ 140737488351232) : Calls Tryz.prog 13 #[.string s] w fun e w' => (∃ v, e = .returned (.tuple #[v, .int .i64 (lexC (lexT s.data.toList)), .int .i64 (lexP (lexT s.data.toList))]) ∧ TokSl w' v (lexTs (lexT s.data.toList))) ∧ Below w.heap.size w w' :=
  (C.tokens s w hs).mono fun e w' ⟨⟨v, a, b, he, ha⟩, hb⟩ => by
    obtain ⟨rfl, rfl, h⟩ := ha.parts
    exact ⟨⟨v, he, h⟩, hb⟩
def wakeT : List Tok := [⟨1, [120], 0, 0⟩, ⟨4, [58, 61], 0, 1⟩, ⟨3, [49], 1, 3⟩]
theorem wake_lex : lexT [120, 58, 61, 49] = .ok wakeT := by rfl
theorem wake_name : isNameB [120] = true := by decide
theorem wake_tokens (C : LexC) (w : World) : Calls Tryz.prog 13 #[.string ⟨#[120, 58, 61, 49]⟩] w fun e w' => (∃ b off cap, e = .returned (.tuple #[.slice (some ⟨b, off, none⟩) 3 cap, .int .i64 0, .int .i64 0]) ∧
    w'.cell? ⟨b, off + 1 * 4 + 1, none⟩ = some (.string ⟨#[58, 61]⟩) ∧ w'.cell? ⟨b, off + 2 * 4 + 2, none⟩ = some (.int .i64 1)) ∧ Below w.heap.size w w' :=
  (tokens_at C _ w (by decide)).mono fun e w' ⟨⟨v, he, ht⟩, hb⟩ => by
    have e1 : lexT (⟨#[120, 58, 61, 49]⟩ : ByteArray).data.toList = .ok wakeT := wake_lex
    rw [e1] at he ht
    obtain ⟨_, a, cap, rfl, _, _, h⟩ := ht
    rcases h with h | ⟨b, off, rfl, _, hc⟩
    · cases h
    · refine ⟨⟨b, off, cap, he, ?_, ?_⟩, hb⟩
      · exact (hc 1 ⟨4, [58, 61], 0, 1⟩ rfl).2.1
      · exact (hc 2 ⟨3, [49], 1, 3⟩ rfl).2.2.1
theorem bt {w w1 w2 : World} (h1 : Below w.heap.size w w1) (h2 : Below w1.heap.size w1 w2) : Below w.heap.size w w2 := h1.trans (h2.mono h1.size)

end Go.Proofs.YtjndknnjboffbaaGreatDoor

namespace Go.Proofs.YtjndknnjboffbaaGreatDoor
open Go.RowKit

theorem lexA_count (f : Nat) : ∀ (l : List UInt8) (p k : Nat) (ts : List Tok), l.length ≤ f → k ≤ 1500 → lexA l p k = .ok ts → k + ts.length ≤ 1500 := by
  induction f with
  | zero =>
    intro l p k ts hf hk h
    have : l = [] := List.eq_nil_of_length_eq_zero (by omega)
    subst this
    rw [lexA_nil] at h; cases h; simpa using hk
  | succ f ih =>
    intro l p k ts hf hk h
    by_cases hne : l = []
    · subst hne; rw [lexA_nil] at h; cases h; simpa using hk
    · cases hs : stepL l with
      | bad => rw [lexA_bad hne hs] at h; cases h
      | skip n =>
        have hl := step_len hs
        rw [lexA_skip hs] at h
        exact ih (l.drop n) (p + n) k ts (by rw [List.length_drop]; omega) hk h
      | tok kd v n =>
        have hl := tok_len hs
        by_cases hk' : 1500 ≤ k
        · rw [lexA_many hs p hk'] at h; cases h
        · rw [lexA_tok hs p hk'] at h
          cases hr : lexA (l.drop n) (p + n) (k + 1) with
          | err c q => rw [hr] at h; cases h
          | ok us =>
            rw [hr] at h
            simp only [Res.cons, Res.ok.injEq] at h
            subst h
            have := ih (l.drop n) (p + n) (k + 1) us (by rw [List.length_drop]; omega) (by omega) hr
            rw [List.length_cons]; omega
theorem cellsT_at : ∀ (ts : List Tok) (j k : Nat) (t : Tok), k < 4 → ts[j]? = some t → (cellsT ts)[j * 4 + k]? = (encT t)[k]? := by
  intro ts
  induction ts with
  | nil => intro j k t _ h; simp at h
  | cons x ts ih =>
    intro j k t hk h
    show (encT x ++ cellsT ts)[j * 4 + k]? = _
    have lx : (encT x).length = 4 := rfl
    cases j with
    | zero =>
      simp only [List.getElem?_cons_zero, Option.some.injEq] at h
      subst h
      rw [List.getElem?_append_left (by omega), Nat.zero_mul, Nat.zero_add]
    | succ j =>
      simp only [List.getElem?_cons_succ] at h
      rw [List.getElem?_append_right (by omega), lx, show (j + 1) * 4 + k - 4 = j * 4 + k by omega]
      exact ih j k t hk h
theorem row_tok {w : World} {base : Nat} {v : Value} {ts : List Tok} (h : w.ownsRow base 85 4 v ts.length (cellsT ts)) (hl : ts.length ≤ 1500) : TokSl w v ts := by
  refine ⟨hl, ?_⟩
  rcases h.2 with ⟨rfl, h0⟩ | ⟨g, cap, cur, rfl, _, h3, h4, h5, h6, h7⟩
  · exact ⟨none, 0, by rw [h0], by omega, Nat.zero_le _, Or.inl (List.eq_nil_of_length_eq_zero h0)⟩
  · refine ⟨_, cap, rfl, h4, h5, ?_⟩
    right
    refine ⟨g, 0, rfl, lt_of_block h3, fun j t hj => ?_⟩
    have hjl : j < ts.length := (List.getElem?_eq_some_iff.1 hj).1
    have key : ∀ k, k < 4 → ∀ u, (encT t)[k]? = some u → w.cell? ⟨g, 0 + j * 4 + k, none⟩ = some u := by
      intro k hk u hu
      have e := cellsT_at ts j k t hk hj
      rw [hu, ← h7, List.getElem?_take_of_lt (by omega), Array.getElem?_toList] at e
      simp only [World.cell?, h3]
      rw [Nat.zero_add]; simpa using e
    exact ⟨key 0 (by omega) _ rfl, key 1 (by omega) _ rfl, key 2 (by omega) _ rfl, key 3 (by omega) _ rfl⟩
theorem nil_tok (w : World) : TokSl w (.slice none 0 0) [] := ⟨by simp, none, 0, rfl, by simp, Nat.zero_le _, Or.inl rfl⟩
end Go.Proofs.YtjndknnjboffbaaGreatDoor
