/-
  The walk of the document's own SameExpr.
-/
import Derived.Test.YtkljakeccfnakaaGreatDoorHP
namespace Go.Proofs.YtkljakeccfnakaaGreatDoor
open Go.RowKit

/-- A world in which what lay in W lies as it did. -/
structure Later (W : World) where
  v : World
  h : Below W.heap.size W v
theorem wp_region_later {P : Program} {id : Nat} {Q : Exit → Act → World → Prop} {a : Act} {w : World} {l : List Oper} (hm : P.follows .mixedOrders = true) (hB : Region.lexB .any l.toArray = true)
    (h : wpQuiet P l.toArray (fun w' => ∃ p : Later w, w' = p.v) (fun a' => ∀ w', (∃ p : Later w, w' = p.v) → Q .normal a' w') l a) : (Code.region id l.toArray true).wp P Q a w :=
  wp_region_quiet (C := fun w' => ∃ p : Later w, w' = p.v) hm hB ⟨⟨w.drew, (Below.refl _ _).drew⟩, rfl⟩ (by simpa using h)
theorem later_cell {W : World} {a : Addr} {x : Value} (hlt : a.block < W.heap.size) (h : W.cell? a = some x) (p : Later W) : p.v.cell? a = some x := (p.h.cell hlt).trans h
theorem calls_later {P : Program} {f : FuncId} {args : Array Value} {W : World} {p : Later W} {v : Value}
    (h : Calls P f args p.v fun e w' => e = .returned v ∧ Below p.v.heap.size p.v w') : Calls P f args p.v fun e w'' => e = .returned v ∧ ∃ q : Later W, w'' = q.v :=
  h.mono fun _ w'' ⟨he, hb⟩ => ⟨he, ⟨w'', bl2 p.h hb⟩, rfl⟩
theorem lt_cell {w : World} {b o : Nat} {u : Value} (h : w.cell? ⟨b, o, none⟩ = some u) : b < w.heap.size := World.block_lt_of_cell? w ⟨b, o, none⟩ h

end Go.Proofs.YtkljakeccfnakaaGreatDoor
