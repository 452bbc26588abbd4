/-
  The walk of the document's own reader of words.
-/
import Derived.Test.YtlkidgilhlpjhaaDoorMm
import Derived.BigRegion
import Derived.RegionTactic
import Derived.Deep.CutRange
import Derived.Deep.CutBlock
namespace Go.Proofs.YtlkidgilhlpjhaaDoor
open Go.RowKit

def encT (t : Tok) : List Value := [.int .i64 t.kind, .string ⟨t.text.toArray⟩, .int .i64 t.val, .int .i64 t.pos]
def cellsT (ts : List Tok) : List Value := ts.flatMap encT
theorem cellsT_len (ts : List Tok) : (cellsT ts).length = ts.length * 4 := by
  induction ts with
  | nil => rfl
  | cons t r ih => show (encT t ++ cellsT r).length = _; rw [List.length_append, ih]; simp [encT]; omega
theorem cellsT_add (ts : List Tok) (t : Tok) : cellsT (ts ++ [t]) = cellsT ts ++ encT t := by unfold cellsT; simp
def Res.app (ts : List Tok) : Res → Res
  | .ok l => .ok (ts ++ l)
  | .err c p => .err c p
theorem app_nil (r : Res) : Res.app [] r = r := by cases r <;> rfl
theorem app_cons (ts : List Tok) (t : Tok) (r : Res) : Res.app ts (r.cons t) = Res.app (ts ++ [t]) r := by
  cases r with
  | ok l => show Res.ok (ts ++ t :: l) = .ok (ts ++ [t] ++ l); simp
  | err c p => rfl

/-- An answer in memory: the words, or a fault and its place. -/
def TokAns (base : Nat) (w : World) (v : Value) (a b : Int) : Res → Prop
  | .ok ts => a = 0 ∧ b = 0 ∧ w.ownsRow base 29 4 v ts.length (cellsT ts)
  | .err c p => v = .slice none 0 0 ∧ a = c ∧ b = p
theorem row_len {w : World} {base n : Nat} {v : Value} {xs : List Value} (h : w.ownsRow base 29 4 v n xs) : ∃ a cap, v = .slice a n cap := by
  rcases h.2 with ⟨rfl, rfl⟩ | ⟨g, cap, cur, rfl, _⟩
  · exact ⟨none, 0, rfl⟩
  · exact ⟨_, cap, rfl⟩
theorem row_base {w : World} {base e size n k : Nat} {v : Value} {xs : List Value} (h : w.ownsRow base e size v n xs) (hk : v.ownBlock = some k) : base ≤ k := by
  rcases h.2 with ⟨rfl, _⟩ | ⟨g, cap, cur, rfl, h2, _⟩
  · cases hk
  · simp only [Value.ownBlock, Option.some.injEq] at hk
    omega
theorem row_alloc {w : World} {base e size n : Nat} {v : Value} {xs : List Value} (h : w.ownsRow base e size v n xs) (o : Obj) : (w.alloc o).ownsRow base e size v n xs :=
  h.kept (World.grownBy_alloc w o none) (by cases v.ownBlock <;> simp)
theorem bel_drewN {B : Nat} {a w : World} (h : Below B a w) (n : Nat) : Below B a (w.drewN n) := h.trans ⟨rfl, rfl, rfl, Nat.le_refl _, fun _ _ => rfl⟩
theorem cell_new {w : World} {cs : List Value} {t g z : Nat} {u : Value} (hg : g = w.heap.size) (h : cs[z]? = some u) : (w.alloc (.cells cs.toArray t)).cell? ⟨g, 0 + z, none⟩ = some u := by
  subst hg
  have e : (w.alloc (.cells cs.toArray t)).heap[w.heap.size]? = some (.cells cs.toArray t) := heap_alloc_new w _
  simp only [World.cell?, e]
  rw [Nat.zero_add]; simpa using h
theorem row_num {w w1 : World} {base e size n : Nat} {v u : Value} {xs : List Value} {o : Obj} {k : Nat} (h : w.ownsRow base e size v n xs) (hb : Below w.heap.size w w1) : ((w1.setCell ⟨w.heap.size, k, none⟩ u).alloc o).ownsRow base e size v n xs := by
  refine row_alloc ?_ o
  obtain ⟨h1, h2⟩ := h
  refine ⟨h1, ?_⟩
  rcases h2 with h2 | ⟨g, cap, cur, e1, e2, e3, e4⟩
  · exact Or.inl h2
  · have hg := lt_of_block e3
    refine Or.inr ⟨g, cap, cur, e1, e2, ?_, e4⟩
    rw [heap_setCell_other _ _ _ _ (show g ≠ w.heap.size by omega)]
    exact (hb.block g hg).trans e3
/-- A word under way, in a block of its own. -/
def OwnT (w : World) (g : Nat) (k : Int) (n i : Nat) : Prop := w.heap[g]? = some (.cells #[.int .i64 k, .string ⟨#[]⟩, .int .i64 (n : Int), .int .i64 (i : Int)] 29 (0, 0))
theorem own_new (w : World) (k : Int) (i : Nat) : OwnT (w.alloc (.cells #[.int .i64 k, .string ⟨#[]⟩, .int .i64 0, .int .i64 i] 29)) w.heap.size k 0 i := by unfold OwnT; show (Array.push _ _)[_]? = _; exact Array.getElem?_push_size
theorem OwnT.cells {w : World} {g : Nat} {k : Int} {n i : Nat} (h : OwnT w g k n i) : w.cell? ⟨g, 0, none⟩ = some (.int .i64 k) ∧ w.cell? ⟨g, 1, none⟩ = some (.string ⟨#[]⟩) ∧ w.cell? ⟨g, 2, none⟩ = some (.int .i64 (n : Int)) ∧ w.cell? ⟨g, 3, none⟩ = some (.int .i64 (i : Int)) := by
  unfold OwnT at h
  refine ⟨?_, ?_, ?_, ?_⟩ <;> simp [World.cell?, h]
theorem OwnT.free {w : World} {g : Nat} {k : Int} {n i : Nat} (h : OwnT w g k n i) (x : Nat) : w.frozen? ⟨g, x, none⟩ = false := by
  unfold OwnT at h
  simp [World.frozen?, h]
theorem OwnT.lt {w : World} {g : Nat} {k : Int} {n i : Nat} (h : OwnT w g k n i) : g < w.heap.size := lt_of_block h
theorem OwnT.val {w : World} {g : Nat} {k : Int} {n i : Nat} (h : OwnT w g k n i) (m : Nat) : OwnT (w.setCell ⟨g, 2, none⟩ (.int .i64 (m : Int))) g k m i := by
  unfold OwnT at *
  rw [heap_setCell_same w g 2 _ 29 _ h]
  rfl
theorem Tryd.info29 : (Tryd.prog.info? 29).map (fun i => (i.zero, i.size, i.bytes)) = some (some (.agg #[.int .i64 0, .string ⟨#[]⟩, .int .i64 0, .int .i64 0]), 4, 40) := by kernel_rfl
theorem info32 : ∃ i0, Tryd.prog.info? 29 = some i0 ∧ i0.zero = some (.agg #[.int .i64 0, .string ⟨#[]⟩, .int .i64 0, .int .i64 0]) ∧ i0.size = 4 ∧ i0.bytes = 40 := by
  have h := Tryd.info29
  cases e : Tryd.prog.info? 29 with
  | none => rw [e] at h; cases h
  | some i =>
    rw [e] at h
    simp only [Option.map_some, Option.some.injEq, Prod.mk.injEq] at h
    exact ⟨i, rfl, h.1, h.2.1, h.2.2⟩
theorem int_ne {c : UInt8} {k : Nat} (h : ¬ c.toNat = k) : (((c.toNat : Nat) : Int) == (k : Int)) = false := by rw [beq_eq_false_iff_ne]; omega
theorem int_eq {c : UInt8} {k : Nat} (h : c.toNat = k) : (((c.toNat : Nat) : Int) == (k : Int)) = true := by rw [beq_iff_eq]; omega
theorem blank_no {c : UInt8} (h : blank c = false) : ¬ c.toNat = 32 ∧ ¬ c.toNat = 9 ∧ ¬ c.toNat = 10 ∧ ¬ c.toNat = 13 := by
  unfold blank at h
  simp only [Bool.or_eq_false_iff, decide_eq_false_iff_not] at h
  omega
theorem ext_txt (s : ByteArray) (i j : Nat) : s.extract i j = ⟨((s.data.toList.drop i).take (j - i)).toArray⟩ := Lib.extract_eq s i j
theorem name_ext (s : ByteArray) (i : Nat) : ∀ c ∈ (s.extract i (upTo nameC s.data.toList i)).data.toList, not32 c = true := by
  intro c hc
  rw [Lib.extract_data, upTo_sub, ← takeWhile_take] at hc
  exact name_not32 ((List.all_eq_true.1 (List.all_takeWhile (p := nameC))) c hc)

end Go.Proofs.YtlkidgilhlpjhaaDoor
