/-
  The walk of the document's own SameExpr.
-/
import Derived.Test.YtkljakeccfnakaaGreatDoorHP
namespace Go.Proofs.YtkljakeccfnakaaGreatDoor
open Go.RowKit

theorem erL_at : ∀ (l l2 : List Ex), erL l = erL l2 ↔ (l.length = l2.length ∧ ∀ (j : Nat) (a b : Ex), l[j]? = some a → l2[j]? = some b → er a = er b) := by
  intro l
  induction l with
  | nil =>
    intro l2
    cases l2 with
    | nil => simp [erL]
    | cons b r => simp [erL]
  | cons a r ih =>
    intro l2
    cases l2 with
    | nil => simp [erL]
    | cons b q =>
      simp only [erL, List.cons.injEq, List.length_cons, Nat.add_right_cancel_iff, ih q]
      constructor
      · rintro ⟨h1, h2, h3⟩
        refine ⟨h2, fun j c d hc hd => ?_⟩
        cases j with
        | zero => simp only [List.getElem?_cons_zero, Option.some.injEq] at hc hd; subst hc; subst hd; exact h1
        | succ j => simp only [List.getElem?_cons_succ] at hc hd; exact h3 j c d hc hd
      · rintro ⟨h2, h3⟩
        exact ⟨h3 0 a b rfl rfl, h2, fun j c d hc hd => h3 (j + 1) c d (by simpa using hc) (by simpa using hd)⟩
/-- A world in which what lay in W lies as it did. -/
structure Later (W : World) where
  v : World
  h : Below W.heap.size W v
theorem wp_region_later {P : Program} {id : Nat} {Q : Exit → Act → World → Prop} {a : Act} {w : World} {l : List Oper} (hm : P.follows .mixedOrders = true) (hB : Region.lexB .any l.toArray = true)
    (h : wpQuiet P l.toArray (fun w' => ∃ p : Later w, w' = p.v) (fun a' => ∀ w', (∃ p : Later w, w' = p.v) → Q .normal a' w') l a) : (Code.region id l.toArray true).wp P Q a w :=
  wp_region_quiet (C := fun w' => ∃ p : Later w, w' = p.v) hm hB ⟨⟨w.drew, (Below.refl _ _).drew⟩, rfl⟩ (by simpa using h)
theorem later_cell {W : World} {a : Addr} {x : Value} (hlt : a.block < W.heap.size) (h : W.cell? a = some x) (p : Later W) : p.v.cell? a = some x := (p.h.cell hlt).trans h
theorem calls_later {P : Program} {f : FuncId} {args : Array Value} {W : World} {p : Later W} {v : Value}
    (h : Calls P f args p.v fun e w' => e = .returned v ∧ Below p.v.heap.size p.v w') : Calls P f args p.v fun e w'' => e = .returned v ∧ ∃ q : Later W, w'' = q.v :=
  h.mono fun _ w'' ⟨he, hb⟩ => ⟨he, ⟨w'', bl2 p.h hb⟩, rfl⟩
theorem lt_cell {w : World} {b o : Nat} {u : Value} (h : w.cell? ⟨b, o, none⟩ = some u) : b < w.heap.size := World.block_lt_of_cell? w ⟨b, o, none⟩ h

theorem ne_nat (a b : Nat) : ((a : Int) != (b : Int)) = !decide (a = b) := by
  rw [Bool.eq_iff_iff, bne_iff_ne, Bool.not_eq_true', decide_eq_false_iff_not]; omega

end Go.Proofs.YtkljakeccfnakaaGreatDoor
