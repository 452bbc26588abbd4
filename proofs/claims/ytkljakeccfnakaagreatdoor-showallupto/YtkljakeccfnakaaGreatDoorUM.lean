/-
  The document's own text of an expression: plain facts, its box, its outcome.
-/
import Derived.Test.YtkljakeccfnakaaGreatDoorUI
import Derived.Test.YtkljakeccfnakaaGreatDoorUJ
import Derived.Test.YtkljakeccfnakaaGreatDoorUK
import Derived.Test.YtkljakeccfnakaaGreatDoorUL
import Derived.Test.YtkljakeccfnakaaGreatDoorUa
import Derived.Test.YtkljakeccfnakaaGreatDoorLm
namespace Go.Proofs.YtkljakeccfnakaaGreatDoor
open Go.RowKit

/-- What the document's text of an expression tells. -/
def TxtR (x : Px) (e : Ending) : Prop := ∃ (s : List UInt8) (b : Bool), e = .returned (.tuple #[.string ⟨s.toArray⟩, .bool b]) ∧ b = wfX x ∧ (b = true → s = shwX x) ∧ s.length ≤ 600 * szX x
/-- What it is handed of the kids. -/
structure TxtK (hi : Nat) (w : World) (l : List Px) (a : Option Addr) : Prop where
  hab : l = [] ∨ ∃ b off, a = some ⟨b, off, none⟩ ∧ Row hi w b off l
  hhi : hi ≤ w.heap.size
  ih : ∀ (j : Nat) (y : Px) (u : Value) (W : World), l[j]? = some y → Below w.heap.size w W → PxV hi W u y → Calls Tryz.prog 29 #[u] W fun e w' => TxtR y e ∧ Below W.heap.size W w'
/-- The cells of a variable that holds an expression. -/
def BxE (w : World) (B : Nat) (k : Int) (tx ox : ByteArray) (n p : Int) (s : Value) : Prop :=
  w.cell? ⟨B, 0, none⟩ = some (.int .i64 k) ∧ w.cell? ⟨B, 1, none⟩ = some (.string tx) ∧ w.cell? ⟨B, 2, none⟩ = some (.string ox) ∧ w.cell? ⟨B, 3, none⟩ = some (.int .i64 n) ∧ w.cell? ⟨B, 4, none⟩ = some (.int .i64 p) ∧ w.cell? ⟨B, 5, none⟩ = some s
theorem BxE.keep {w w' : World} {B : Nat} {k n p : Int} {tx ox : ByteArray} {s : Value} (h : BxE w B k tx ox n p s) (hb : Below w.heap.size w w') : BxE w' B k tx ox n p s := by
  obtain ⟨h0, h1, h2, h3, h4, h5⟩ := h
  have l := lt_cell h0
  exact ⟨(hb.cell (p := ⟨B, _, none⟩) l).trans h0, (hb.cell (p := ⟨B, _, none⟩) l).trans h1, (hb.cell (p := ⟨B, _, none⟩) l).trans h2, (hb.cell (p := ⟨B, _, none⟩) l).trans h3, (hb.cell (p := ⟨B, _, none⟩) l).trans h4, (hb.cell (p := ⟨B, _, none⟩) l).trans h5⟩
theorem BxE.grown {w w' : World} {B : Nat} {k n p : Int} {tx ox : ByteArray} {s : Value} {row : Option Nat} (h : BxE w B k tx ox n p s) (hg : w.grownBy w' row) (hne : some B ≠ row) : BxE w' B k tx ox n p s := by
  obtain ⟨h0, h1, h2, h3, h4, h5⟩ := h
  exact ⟨hg.cell (a := ⟨B, _, none⟩) h0 hne, hg.cell (a := ⟨B, _, none⟩) h1 hne, hg.cell (a := ⟨B, _, none⟩) h2 hne, hg.cell (a := ⟨B, _, none⟩) h3 hne, hg.cell (a := ⟨B, _, none⟩) h4 hne, hg.cell (a := ⟨B, _, none⟩) h5 hne⟩
theorem row_len9 {w : World} {base e size n : Nat} {v : Value} {xs : List Value} (h : w.ownsRow base e size v n xs) : ∃ a cap, v = .slice a n cap := by
  rcases h.2 with ⟨rfl, rfl⟩ | ⟨g, cap, cur, rfl, _⟩
  · exact ⟨_, _, rfl⟩
  · exact ⟨_, _, rfl⟩
theorem Tryz.info9 : (Tryz.prog.info? 9).map (fun i => (i.zero, i.size, i.bytes)) = some (some (.string ⟨#[]⟩), 1, 16) := by kernel_rfl
theorem info9 : ∃ i0, Tryz.prog.info? 9 = some i0 ∧ i0.zero = some (.string ⟨#[]⟩) ∧ i0.size = 1 ∧ i0.bytes = 16 := by
  have h := Tryz.info9
  cases e : Tryz.prog.info? 9 with
  | none => rw [e] at h; cases h
  | some i =>
    rw [e] at h
    simp only [Option.map_some, Option.some.injEq, Prod.mk.injEq] at h
    exact ⟨i, rfl, h.1, h.2.1, h.2.2⟩
theorem name_at (t : List UInt8) (c : Bool) (ht : t.length ≤ 100) (h : isNameB t = c) (W : World) : Calls Tryz.prog 27 #[.string ⟨t.toArray⟩] W fun e w' => e = .returned (.bool c) ∧ w' = W := by
  have := refIsName_any ⟨t.toArray⟩ W (by rw [Lib.size_eq]; show t.length ≤ _; omega)
  rw [show isNameB (⟨t.toArray⟩ : ByteArray).data.toList = c from h] at this
  exact this
theorem hx_alloc {w : World} {B : Nat} {k n p : Int} {tx ox : ByteArray} {s : Value} (h : BxE w B k tx ox n p s) (o : Obj) : BxE (w.alloc o) B k tx ox n p s := h.keep ((Below.refl _ _).alloc (Nat.le_refl _) o)
def strs (l : List Px) : List Value := l.map fun y => Value.string ⟨(shwX y).toArray⟩
theorem strs_add (l : List Px) (y : Px) : strs (l ++ [y]) = strs l ++ [Value.string ⟨(shwX y).toArray⟩] := by simp [strs]
theorem row_str {w : World} {base n : Nat} {a : Option Addr} {cap : Nat} {l : List Px} (h : w.ownsRow base 9 1 (.slice a n cap) n (strs l)) (hn : 0 < n) : ∃ g, a = some ⟨g, 0, none⟩ ∧ g < w.heap.size ∧ ∀ j y, j < n → l[j]? = some y → w.cell? ⟨g, j, none⟩ = some (.string ⟨(shwX y).toArray⟩) := by
  obtain ⟨g, rfl, hl⟩ : ∃ g, a = some ⟨g, 0, none⟩ ∧ g < w.heap.size := by
    rcases h.2 with ⟨_, h0⟩ | ⟨g, cap', cur, hv, _, hg, _⟩
    · omega
    · injection hv with h1 h2 h3
      exact ⟨g, h1, lt_of_block hg⟩
  refine ⟨g, rfl, hl, fun j y hj hy => ?_⟩
  rw [h.cellAt j (by omega)]
  simp [strs, hy]
theorem wf_kid_no {k n p : Int} {t o : List UInt8} {l : List Px} {i : Nat} {y : Px} (hy : l[i]? = some y) (h : wfX y = false) : wfX (.mk k t o n p l) = false := by
  rw [wfX, wfXL_all, all_no hy h, Bool.and_false]
theorem wf_node_no {k n p : Int} {t o : List UInt8} {l : List Px} (h : nodeB k t o n l = false) : wfX (.mk k t o n p l) = false := by
  rw [wfX, h, Bool.false_and]
theorem wf_node_of {k n p : Int} {t o : List UInt8} {l : List Px} {c : Bool} (h : nodeB k t o n l = c) (ha : l.all wfX = true) : wfX (.mk k t o n p l) = c := by
  rw [wfX, wfXL_all, h, ha, Bool.and_true]
theorem txt_no {x : Px} (h : wfX x = false) : TxtR x (.returned (.tuple #[.string ⟨#[]⟩, .bool false])) := ⟨[], false, rfl, h.symm, fun h => absurd h (by decide), by simp⟩
theorem txt_yes {x : Px} {S : ByteArray} {b : Bool} {s : List UInt8} (hS : S = ⟨s.toArray⟩) (hb : b = wfX x) (hs : b = true → s = shwX x) (hl : s.length ≤ 600 * szX x) : TxtR x (.returned (.tuple #[.string S, .bool b])) := by
  rw [hS]; exact ⟨s, b, rfl, hb, hs, hl⟩
theorem shw_sz {x : Px} (h : wfX x = true) : (shwX x).length ≤ 200 * szX x := shw_len (szX x) x (Nat.le_refl _) h
/-- One more text in the row. -/
theorem row_more {w2 : World} {base i : Nat} {v1 : Value} {l : List Px} {y : Px} (hy : l[i]? = some y) (h : w2.ownsRow base 9 1 v1 (i + 1) (strs (l.take i) ++ [Value.string ⟨(shwX y).toArray⟩])) : w2.ownsRow base 9 1 v1 (i + 1) (strs (l.take (i + 1))) := by
  rw [takeX_add hy, strs_add]; exact h
end Go.Proofs.YtkljakeccfnakaaGreatDoor
