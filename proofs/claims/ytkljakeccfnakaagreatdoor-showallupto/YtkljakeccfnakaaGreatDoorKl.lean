/-
  The reader's functions keep their contracts, with any fuel.
  What the reader of a whole program runs, case by case.
-/
import Derived.Test.YtkljakeccfnakaaGreatDoorKH
import Derived.Test.YtkljakeccfnakaaGreatDoorKF
import Derived.Test.YtkljakeccfnakaaGreatDoorKD
import Derived.Test.YtkljakeccfnakaaGreatDoorKJ
namespace Go.Proofs.YtkljakeccfnakaaGreatDoor

theorem reads_zero {Z R en F : Nat} {s : Sym} : Reads Z R en 0 F s := fun _ _ _ _ _ hO hg => absurd hg.symm hO
/-- The three parts that the grammar goes round through. -/
structure Three (Z R en f : Nat) : Prop where
  seq : Reads Z R en f 107 .seq
  expr : Reads Z R en f 130 .expr
  unit : Reads Z R en f 169 .unit
theorem three_step {Z R en f : Nat} (h : ∀ g, g ≤ f → Three Z R en g) : Three Z R en (f + 1) := by
  have hf := h f (Nat.le_refl _)
  have KB : ∀ g, g ≤ f → Begins Z R en g 150 := fun g hg => begin_steps (h g hg).unit
  have KA : ∀ g, g ≤ f → Goes Z R en g 184 fun p x k => .call (.appL p x) k := fun g hg => app_goes fun i hi => (h i (Nat.le_trans hi hg)).unit
  have KP : ∀ g, g ≤ f → Goes Z R en g 181 fun p x k => prodK p x k := fun g hg => prod_goes (fun i hi => KB i (Nat.le_trans hi hg)) (fun i hi => KA i (Nat.le_trans hi hg))
  have KS : Goes Z R en f 170 fun p x k => sumK p x k := sum_goes KB KP
  have KT : GoesR Z R en f 151 testC := test_goes (KB f (Nat.le_refl _)) KS
  exact {
    seq := Reads.of (seq_reads hf.expr hf.seq)
    expr := Reads.of (expr_reads hf.expr (KB f (Nat.le_refl _)) KT (let_reads hf.expr hf.seq) (choice_reads hf.expr) (function_reads hf.expr) (match_reads hf.expr (pairs_reads hf.expr) (options_reads hf.expr)) (store_reads hf.expr))
    unit := Reads.of (unit_reads hf.unit (inside_reads hf.seq) (named_reads hf.expr)) }
theorem three_all (Z R en : Nat) : ∀ f, ∀ g, g ≤ f → Three Z R en g
  | 0, g, hg => by
    have : g = 0 := by omega
    subst this
    exact ⟨reads_zero, reads_zero, reads_zero⟩
  | f + 1, g, hg => by
    by_cases c : g ≤ f
    · exact three_all Z R en f g c
    · have : g = f + 1 := by omega
      subst this
      exact three_step (three_all Z R en f)
theorem seq_all (Z R en f : Nat) : Reads Z R en f 107 .seq := (three_all Z R en f f (Nat.le_refl _)).seq
end Go.Proofs.YtkljakeccfnakaaGreatDoor

namespace Go.Proofs.YtkljakeccfnakaaGreatDoor
open Go.RowKit

section
variable {en g locs : Nat} {ds es : List Ex} {us : List Tok}
theorem doms_go (h1 : es = [] ∨ us ≠ []) (h2 : ¬ (es.length = 3 ∧ hd (isT [100, 111, 109, 97, 105, 110]) us = true)) :
    runC en (P en g) (domsC ds es) us = runC en (P en g) (domC fun e => .call (.doms ds (es ++ [e])) .ret) us := by
  unfold domsC
  generalize (domC fun e => Cmd.call (.doms ds (es ++ [e])) .ret) = go
  have e2 : runC en (P en g) (if es.length = 3 then .see (isT [100, 111, 109, 97, 105, 110]) (.here .lim) go else go) us = runC en (P en g) go us := by
    by_cases c3 : es.length = 3
    · have cd : hd (isT [100, 111, 109, 97, 105, 110]) us = false := by
        cases c : hd (isT [100, 111, 109, 97, 105, 110]) us with
        | false => rfl
        | true => exact absurd ⟨c3, c⟩ h2
      rw [if_pos c3, see_no cd]
    · rw [if_neg c3]
  by_cases c0 : es.length = 0
  · rw [if_pos c0]; exact e2
  · have hne : us ≠ [] := h1.resolve_left (fun e => c0 (by rw [e]; rfl))
    have ht : hd (fun _ => true) us = true := by
      cases us with
      | nil => exact absurd rfl hne
      | cons => rfl
    rw [if_neg c0, see_yes ht]; exact e2
theorem doms_lim (c3 : es.length = 3) (cd : hd (isT [100, 111, 109, 97, 105, 110]) us = true) : runC en (P en g) (domsC ds es) us = .lim (place en us) := by
  have ht : hd (fun _ => true) us = true := by
    cases us with
    | nil => cases cd
    | cons => rfl
  unfold domsC
  rw [if_neg (by omega), see_yes ht, if_pos c3, see_yes cd]; rfl
theorem doms_end (c0 : es.length ≠ 0) (cu : us = []) : runC en (P en g) (domsC ds es) us = .ok (progE ds es) us := by
  subst cu
  unfold domsC
  rw [if_neg c0, see_no rfl]; rfl
theorem decls_none (h : hd isDecl us = false) : runC en (P en g) (declsC locs ds) us = P en g (.doms ds []) us := by
  unfold declsC; rw [see_no h, run_tail]
theorem decls_lim (h : hd isDecl us = true) (h8 : ds.length = 8) : runC en (P en g) (declsC locs ds) us = .lim (place en us) := by
  unfold declsC; rw [see_yes h, if_pos h8]; rfl
theorem decls_go (h : hd isDecl us = true) (h8 : ds.length ≠ 8) : runC en (P en g) (declsC locs ds) us = runC en (P en g) (declC fun d => if 16 < locs + sizeE d then .lim d.pl else .call (.decls (locs + sizeE d) (ds ++ [d])) .ret) us := by
  unfold declsC; rw [see_yes h, if_neg h8]
theorem gone_then2 {k : Ex → Cmd} {X O : Out} {c p : Nat} (h : thenO en g k X = O) (hg : Gone en X c p) : Gone en O c p := by
  rcases hg with ⟨h1, r, h2, h3⟩ | ⟨h1, h2⟩
  · subst h2; exact Or.inl ⟨h1, r, h.symm, h3⟩
  · subst h2; exact Or.inr ⟨h1, h.symm⟩
end
/-- The variable of a declaration. -/
def BoxD (w : World) (b : Nat) (x0 x1 x2 x3 : Value) : Prop := w.heap[b]? = some (.cells #[x0, x1, x2, x3] 46 (0, 0))
section
variable {w w' : World} {b R n : Nat} {x0 x1 x2 x3 : Value}
theorem BoxD.lt (h : BoxD w b x0 x1 x2 x3) : b < w.heap.size := lt_of_block h
theorem BoxD.cells (h : BoxD w b x0 x1 x2 x3) : w.cell? ⟨b, 0, none⟩ = some x0 ∧ w.cell? ⟨b, 1, none⟩ = some x1 ∧ w.cell? ⟨b, 2, none⟩ = some x2 ∧ w.cell? ⟨b, 3, none⟩ = some x3 := by
  unfold BoxD at h
  refine ⟨?_, ?_, ?_, ?_⟩ <;> simp [World.cell?, h]
theorem BoxD.but (hb : But R w w') (hne : b ≠ R) (h : BoxD w b x0 x1 x2 x3) : BoxD w' b x0 x1 x2 x3 := (hb.block b h.lt hne).trans h
theorem BoxD.new (hn : b = w.heap.size) : BoxD (w.alloc (.cells #[x0, x1, x2, x3] 46 (0, 0))) b x0 x1 x2 x3 := by
  subst hn; exact heap_alloc_new _ _
end
end Go.Proofs.YtkljakeccfnakaaGreatDoor
