/-
  Premises that a short tactic finds; no program is named here.
-/
import Derived.Test.YtlkidgilhlpjhaaGreatDoorRows
namespace Go.Proofs.YtlkidgilhlpjhaaGreatDoor

theorem a0_ {p : Prop} (h : p := by repeat (first | with_reducible exact Below.refl _ _ | with_reducible refine Below.alloc ?_ (by first | omega | (simp; done) | (simp; omega)) _ | with_reducible refine Below.drew ?_ | with_reducible refine Below.setCell ?_ (by first | (dsimp only; omega) | (simp; omega)) _ )) : p := h
theorem a1_ {p : Prop} (h : p := by repeat (first | with_reducible exact But.refl _ _ | with_reducible refine But.alloc ?_ _ | with_reducible refine But.drew ?_ | with_reducible refine But.setCell ?_ (by first | (left; dsimp only; omega) | (left; simp; omega)) _ | with_reducible refine But.trans ?_ (by assumption) | with_reducible refine But.below ?_ (by assumption))) : p := h
theorem a2_ {p : Prop} (h : p := by first | omega | (simp; done) | (simp; omega)) : p := h
theorem a3_ {p : Prop} (h : p := by repeat (first | with_reducible exact Kept.refl _ _ | with_reducible refine Kept.alloc ?_ _ | with_reducible refine Kept.drew ?_ | with_reducible refine Kept.setCell ?_ (by first | (left; dsimp only; omega) | (right; dsimp only; omega) | (left; simp; omega) | (right; simp; omega)) _ | with_reducible refine Kept.but ?_ (by assumption) (by first | omega | (simp; omega)) | with_reducible refine Kept.below ?_ (by assumption))) : p := h
theorem a4_ {p : Prop} (h : p := by first | (dsimp only; omega) | (simp; omega)) : p := h
theorem a5_ {p : Prop} (h : p := by first | (left; dsimp only; omega) | (left; simp; omega)) : p := h
theorem a6_ {p : Prop} (h : p := by repeat (first | with_reducible exact KeptQ.refl _ _ | with_reducible refine KeptQ.own3 ?_ | with_reducible refine KeptQ.own2 ?_ | with_reducible refine KeptQ.alloc ?_ _ | with_reducible refine KeptQ.drew ?_ | with_reducible refine KeptQ.below ?_ (by assumption))) : p := h
theorem a7_ {p : Prop} (h : p := by first | (left; dsimp only; omega) | (right; dsimp only; omega) | (left; simp; omega) | (right; simp; omega)) : p := h
theorem a8_ {p : Prop} (h : p := by repeat (first | with_reducible exact Kept.refl _ _ | with_reducible refine Kept.alloc ?_ _ | with_reducible refine Kept.drew ?_ | with_reducible refine Kept.setCell ?_ (by first | (left; dsimp only; omega) | (right; dsimp only; omega) | (left; simp; omega) | (right; simp; omega)) _ | with_reducible refine Kept.but ?_ (by assumption) (by first | omega | (simp; omega)) | with_reducible refine Kept.but3 ?_ (by assumption) (by first | omega | (simp; omega)) (by first | omega | (simp; omega)) (by first | omega | (simp; omega)) | with_reducible refine Kept.below ?_ (by assumption))) : p := h
theorem a9_ {p : Prop} (h : p := by first | omega | (simp; omega)) : p := h
theorem a10_ {p : Prop} (h : p := by repeat (first | with_reducible exact But3.refl _ _ _ _ | with_reducible refine But3.drew ?_ | with_reducible refine But3.setCell ?_ (by first | (left; rfl) | (right; rfl)) _ | with_reducible refine But3.trans ?_ (by assumption))) : p := h
theorem a11_ {p : Prop} (h : p := by repeat (first | with_reducible exact But.refl _ _ | with_reducible refine But.alloc ?_ _ | with_reducible refine But.drew ?_ | with_reducible refine But.setCell ?_ (by first | (left; dsimp only; omega) | (left; simp; omega)) _ | with_reducible refine But.trans ?_ (by assumption) | with_reducible refine But.of3 ?_ (by assumption) (by first | omega | (simp; done) | (simp; omega)) (by first | omega | (simp; done) | (simp; omega)) | with_reducible refine But.below ?_ (by assumption))) : p := h
theorem a12_ {p : Prop} (h : p := by first | (dsimp only; omega) | (simp; done) | (simp; omega)) : p := h
theorem a13_ {p : Prop} (h : p := by first | (left; rfl) | (right; rfl)) : p := h
theorem a14_ {p : Prop} (h : p := by repeat (first | with_reducible exact Kept.refl _ _ | with_reducible refine Kept.setCell ?_ (by first | (left; dsimp only; omega) | (left; simp; omega)) _)) : p := h
theorem r0_ {p q : Prop} (h0 : q) (h : q → p := by intro hq; repeat (first | with_reducible exact hq | with_reducible refine Box.drew ?_ | with_reducible refine Box.alloc _ ?_ | with_reducible refine Box.other (by first | (dsimp only; omega) | (simp; omega)) ?_)) : p := h h0
theorem r1_ {p q : Prop} (h0 : q) (h : q → p := by intro hq; repeat (first | with_reducible exact hq | with_reducible refine Box2.drew ?_ | with_reducible refine Box2.alloc _ ?_ | with_reducible refine Box2.other (by first | (dsimp only; omega) | (simp; omega)) ?_)) : p := h h0
theorem r2_ {p q : Prop} (h0 : q) (h : q → p := by intro hq; repeat (first | with_reducible exact hq | with_reducible refine SB.alloc _ ?_ | with_reducible refine SB.drew ?_ | with_reducible refine SB.other (by first | (dsimp only; omega) | (simp; done) | (simp; omega)) ?_ | with_reducible refine SB.below (by assumption) ?_)) : p := h h0
end Go.Proofs.YtlkidgilhlpjhaaGreatDoor
