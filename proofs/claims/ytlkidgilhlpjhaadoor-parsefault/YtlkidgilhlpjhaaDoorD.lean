/-
  Words in memory, and the walk of the document's own comparison of two lists of them.
-/
import Derived.Test.YtlkidgilhlpjhaaDoorMm
import Derived.Laws.StructEq
import Derived.WalkSmall
namespace Go.Proofs.YtlkidgilhlpjhaaDoor
open Go.RowKit

/-- The value v is a slice of the words ts in the world w. -/
def TokSl (w : World) (v : Value) (ts : List Tok) : Prop :=
  ts.length ≤ 1500 ∧ ∃ a cap, v = .slice a ts.length cap ∧ ts.length ≤ cap ∧ cap ≤ maxLen ∧ (ts = [] ∨ ∃ b off, a = some ⟨b, off, none⟩ ∧ b < w.heap.size ∧ ∀ j t, ts[j]? = some t →
    w.cell? ⟨b, off + j * 4, none⟩ = some (.int .i64 t.kind) ∧ w.cell? ⟨b, off + j * 4 + 1, none⟩ = some (.string ⟨t.text.toArray⟩) ∧ w.cell? ⟨b, off + j * 4 + 2, none⟩ = some (.int .i64 t.val) ∧ w.cell? ⟨b, off + j * 4 + 3, none⟩ = some (.int .i64 t.pos))
theorem TokSl.below {w w' : World} {v : Value} {ts : List Tok} (h : TokSl w v ts) (hb : Below w.heap.size w w') : TokSl w' v ts := by
  obtain ⟨l, a, cap, e, g, g2, h⟩ := h
  refine ⟨l, a, cap, e, g, g2, ?_⟩
  rcases h with h | ⟨b, off, e1, e2, e3⟩
  · exact Or.inl h
  · refine Or.inr ⟨b, off, e1, Nat.lt_of_lt_of_le e2 hb.size, fun j t hj => ?_⟩
    obtain ⟨c0, c1, c2, c3⟩ := e3 j t hj
    exact ⟨(hb.cell (p := ⟨b, _, none⟩) e2).trans c0, (hb.cell (p := ⟨b, _, none⟩) e2).trans c1, (hb.cell (p := ⟨b, _, none⟩) e2).trans c2, (hb.cell (p := ⟨b, _, none⟩) e2).trans c3⟩

/-- Two words held against each other. -/
def sameB (t u : Tok) : Bool := ((t.kind : Int) == (u.kind : Int)) && ((t.text == u.text) && (((t.val : Int) == (u.val : Int)) && ((t.pos : Int) == (u.pos : Int))))
theorem sameB_iff (t u : Tok) : sameB t u = true ↔ t = u := by
  obtain ⟨a, b, c, d⟩ := t
  obtain ⟨a', b', c', d'⟩ := u
  unfold sameB
  simp only [Bool.and_eq_true, beq_iff_eq, Tok.mk.injEq]
  constructor
  · rintro ⟨h1, h2, h3, h4⟩; exact ⟨by omega, h2, by omega, by omega⟩
  · rintro ⟨h1, h2, h3, h4⟩; exact ⟨by omega, h2, by omega, by omega⟩
theorem eq32 (t u : Tok) (w : World) : (Op.equalIn 10000 29 (.agg #[.int .i64 t.kind, .string ⟨t.text.toArray⟩, .int .i64 t.val, .int .i64 t.pos]) (.agg #[.int .i64 u.kind, .string ⟨u.text.toArray⟩, .int .i64 u.val, .int .i64 u.pos])).run Tryd.prog w = .ok (sameB t u) w := by
  have u3 := Tryd.underlying3
  have u9 := Tryd.underlying9
  have a3 := Tryd.isAgg3
  have z3 := Tryd.sizeOf3
  have a9 := Tryd.isAgg9
  have z9 := Tryd.sizeOf9
  have hS : Tryd.prog.underlying 29 = some (.struct (Tryd.prog.fieldsOf 29)) := by kernel_rfl
  rw [show (10000 : Nat) = 9999 + 1 from rfl, run_equalIn_agg w 9999 29 _ _ hS (by kernel_rfl)]
  simp only [Program.fieldsOf, Tryd.underlying29]
  go_simp
  unfold sameB
  by_cases h1 : (t.kind : Int) = (u.kind : Int) <;> by_cases h2 : t.text = u.text <;> by_cases h3 : (t.val : Int) = (u.val : Int) <;> by_cases h4 : (t.pos : Int) = (u.pos : Int) <;> simp [h1, h2, h3, h4]

end Go.Proofs.YtlkidgilhlpjhaaDoor
