/-
  Proved: for every two values of the moments' type the Go function RatBetween of the statements of layer 1 returns true, and its arguments read as before (the whole statement, no condition beside its own).
-/
import Derived.Test.YtojelhdlomcdpaaRows
import Derived.Test.YtojelhdlomcdpaaE
import Derived.ProofKit
import Derived.Lib.SmallJoins
namespace Go.Proofs.Ytojelhdlomcdpaa
open Go.ChangeShapes Go.WideShapes Go.ChangeAt Go.RowKit Go.Joins

theorem ratBetween_any (n d m c : Int) (w : World) :
    Calls Try.prog 5 #[.agg #[.int .i64 n, .int .i64 d], .agg #[.int .i64 m, .int .i64 c]] w fun e w' => e = .returned (.bool true) ∧ Below w.heap.size w w' := by
  cases k : rightB n d
  · have h : 0 ≤ cmpI n d m c := by rw [cmpI_no1 k]; omega
    exact ratBetween_no_no n d m c w h k
  · cases q : rightB (aftI n d) 1
    · rcases cmpI_three n d m c with h | h
      · cases hr : rightB (lN n d + lN m c) (lD n d + lD m c)
        · exact ratBetween_far_far n d m c w h hr k q
        · exact ratBetween_yes_far n d m c w h hr (bet_left h hr) (bet_right h hr) k q
      · exact ratBetween_no_far n d m c w h k q
    · obtain ⟨_, _, v1, v2⟩ := (right_iff _ _).1 q
      cases u : rightB (aftI n d - 1) 1
      · rcases cmpI_three n d m c with h | h
        · cases hr : rightB (lN n d + lN m c) (lD n d + lD m c)
          · exact ratBetween_far_yesn n d m c w h hr k q u (aft_later k q) v1 v2
          · exact ratBetween_yes_yesn n d m c w h hr (bet_left h hr) (bet_right h hr) k q u (aft_later k q) v1 v2
        · exact ratBetween_no_yesn n d m c w h k q u (aft_later k q) v1 v2
      · rcases cmpI_three n d m c with h | h
        · cases hr : rightB (lN n d + lN m c) (lD n d + lD m c)
          · exact ratBetween_far_yes n d m c w h hr k q u (aft_later k q) (aft_least k u) v1 v2
          · exact ratBetween_yes_yes n d m c w h hr (bet_left h hr) (bet_right h hr) k q u (aft_later k q) (aft_least k u) v1 v2
        · exact ratBetween_no_yes n d m c w h k q u (aft_later k q) (aft_least k u) v1 v2

theorem Try.own : ownKnob Try.prog.godebug = none := by kernel_rfl
theorem Try.cells3 : Try.prog.cellsOf 3 = 1 := by kernel_rfl
theorem Try.cells23 : Try.prog.cellsOf 23 = 2 := by kernel_rfl

theorem reads {H : Type} {enc : TypeId × Value → H} {a b : Int} (wa : (Lit.int .i64 a).wf = true) (wb : (Lit.int .i64 b).wf = true) (W' : World) (sp : Nat → Bool) :
    DataW.Trod enc Try.prog W' 0 sp true 23 (.agg #[.int .i64 a, .int .i64 b]) (.agg [.lit (.int .i64 a), .lit (.int .i64 b)]) [] :=
  shut_agg2 (y0 := (.lit (.int .i64 a), [])) (y1 := (.lit (.int .i64 b), [])) Try.underlying23 (by kernel_rfl) Try.cells23 ⟨1, by simp [DataW.trod, Try.underlying3, wa]⟩ ⟨1, by simp [DataW.trod, Try.underlying3, wb]⟩

set_option maxRecDepth 100000 in
theorem ratBetween_lifted (os : Os) (started : os.Started) (H : Type) (enc : TypeId × Value → H) :
    ReturnsInHanded {} Try.checked os 5 .any (Rows.ratBetweenSpec.pre6 enc Try.prog Try.f5 Rows.ratBetweenRow.domain false) (Rows.ratBetweenSpec.post enc Try.prog Try.f5 false true false false) := by
  refine returnsInHanded_of_change (C := Try.checked) Try.own started (by kernel_rfl) Try.func5
    (ChangeSpec.witness6 (enc := enc) (C := Try.checked) false ⟨#[], #[.agg #[.int .i64 0, .int .i64 0], .agg #[.int .i64 0, .int .i64 0]], []⟩ 8 (by kernel_rfl) (by kernel_rfl) (by kernel_rfl) (by kernel_rfl)) ?_
  intro W base args ds gs before hval0 hW _ _
  have hval : ∀ (j : Nat) t v, Try.f5.params[j]? = some t → args[j]? = some v → Value.okWide Try.prog W .any base t v := hval0
  have hW' := hW
  obtain ⟨p, q, hA0, hV, rfl, _, _⟩ := hW
  have hA : DataW.TrodAll enc Try.prog W 0 (fun _ => true) true Try.f5.params.toList args.toList ds p := hA0
  rw [Try.params5] at hA hval
  obtain ⟨v0, v1, d0, d1, p0, p1, rfl, rfl, rfl, h0, h1⟩ := trodAll_two hA
  obtain ⟨rfl, rfl⟩ := trodVars_none hV
  obtain ⟨c0, c1, y0, y1, m, rfl, rfl, rfl, hy0, hy1⟩ := open_agg2 Try.underlying23 (by kernel_rfl) Try.cells23 (hval 0 23 v0 rfl rfl) h0
  obtain ⟨a, e0, rfl, wa⟩ := DataW.trod_int Try.underlying3 hy0
  obtain ⟨b, e1, rfl, wb⟩ := DataW.trod_int Try.underlying3 hy1
  obtain ⟨c2, c3, y2, y3, m', rfl, rfl, rfl, hy2, hy3⟩ := open_agg2 Try.underlying23 (by kernel_rfl) Try.cells23 (hval 1 23 v1 rfl rfl) h1
  obtain ⟨c, e2, rfl, wc⟩ := DataW.trod_int Try.underlying3 hy2
  obtain ⟨d, e3, rfl, wd⟩ := DataW.trod_int Try.underlying3 hy3
  simp at e0 e1 e2 e3
  subst e0 e1 e2 e3
  clear hA0 hval0
  simp only [List.append_nil] at hW'
  refine (ratBetween_any a b c d W).mono fun e W' ⟨he, bel⟩ => ?_
  subst he
  exact ⟨_, rfl, _, _, _, [], [], [], hW', trodAll_mk1 (shut_bool Try.underlying4 _), trodAll_mk2 (reads wa wb _ _) (reads wc wd _ _), rfl, bel.frame _, fun h => by cases h⟩

theorem ratBetween_holds : Rows.RatBetweenSaid :=
  OpenClaim.holds_of_wide 5 Try.f5 rfl rfl rfl rfl rfl rfl rfl ⟨rfl, rfl, rfl, rfl, rfl⟩ rfl rfl rfl rfl rfl (by kernel_rfl) Try.func5 (by kernel_rfl)
    (of_decide_eq_true (by kernel_rfl)) (by unfold Func.isWrapper; first | (rw [if_pos (by decide +kernel)]; kernel_rfl) | (rw [if_neg (by decide +kernel)]; exact ⟨rfl, rfl⟩))
    (fun os started H enc _ => ratBetween_lifted os started H enc)
#print axioms ratBetween_holds
end Go.Proofs.Ytojelhdlomcdpaa
