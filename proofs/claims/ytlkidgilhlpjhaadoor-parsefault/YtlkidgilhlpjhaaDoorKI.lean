/-
  The reader's functions keep their contracts, with any fuel.
-/
import Derived.Test.YtlkidgilhlpjhaaDoorKH
import Derived.Test.YtlkidgilhlpjhaaDoorKF
import Derived.Test.YtlkidgilhlpjhaaDoorKD
namespace Go.Proofs.YtlkidgilhlpjhaaDoor

theorem reads_zero {Z R en F : Nat} {s : Sym} : Reads Z R en 0 F s := fun _ _ _ _ _ hO hg => absurd hg.symm hO
/-- The three parts that the grammar goes round through. -/
structure Three (Z R en f : Nat) : Prop where
  seq : Reads Z R en f 37 .seq
  expr : Reads Z R en f 47 .expr
  unit : Reads Z R en f 67 .unit
theorem three_step {Z R en f : Nat} (h : ∀ g, g ≤ f → Three Z R en g) : Three Z R en (f + 1) := by
  have hf := h f (Nat.le_refl _)
  have KB : ∀ g, g ≤ f → Begins Z R en g 57 := fun g hg => begin_steps (h g hg).unit
  have KA : ∀ g, g ≤ f → Goes Z R en g 81 fun p x k => .call (.appL p x) k := fun g hg => app_goes fun i hi => (h i (Nat.le_trans hi hg)).unit
  have KP : ∀ g, g ≤ f → Goes Z R en g 77 fun p x k => prodK p x k := fun g hg => prod_goes (fun i hi => KB i (Nat.le_trans hi hg)) (fun i hi => KA i (Nat.le_trans hi hg))
  have KS : Goes Z R en f 68 fun p x k => sumK p x k := sum_goes KB KP
  have KT : GoesR Z R en f 58 testC := test_goes (KB f (Nat.le_refl _)) KS
  exact {
    seq := Reads.of (seq_reads hf.expr hf.seq)
    expr := Reads.of (expr_reads hf.expr (KB f (Nat.le_refl _)) KT (let_reads hf.expr hf.seq) (choice_reads hf.expr) (function_reads hf.expr) (match_reads hf.expr (pairs_reads hf.expr) (options_reads hf.expr)) (store_reads hf.expr))
    unit := Reads.of (unit_reads hf.unit (inside_reads hf.seq) (named_reads hf.expr)) }
theorem three_all (Z R en : Nat) : ∀ f, ∀ g, g ≤ f → Three Z R en g
  | 0, g, hg => by
    have : g = 0 := by omega
    subst this
    exact ⟨reads_zero, reads_zero, reads_zero⟩
  | f + 1, g, hg => by
    by_cases c : g ≤ f
    · exact three_all Z R en f g c
    · have : g = f + 1 := by omega
      subst this
      exact three_step (three_all Z R en f)
theorem seq_all (Z R en f : Nat) : Reads Z R en f 37 .seq := (three_all Z R en f f (Nat.le_refl _)).seq
end Go.Proofs.YtlkidgilhlpjhaaDoor
