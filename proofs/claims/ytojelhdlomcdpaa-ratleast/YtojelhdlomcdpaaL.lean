/-
  Proved: for every two values of the moments' type the Go function RatLeast of the statements of layer 1 returns true, and its arguments read as before (the whole statement, no condition beside its own).
-/
import Derived.Test.YtojelhdlomcdpaaP
import Derived.Test.YtojelhdlomcdpaaK
namespace Go.Proofs.Ytojelhdlomcdpaa
open Go.ChangeShapes Go.WideShapes Go.ChangeAt Go.RowKit Go.Joins

theorem ratLeast_any (n d m c : Int) (w : World) :
    Calls Try.prog 6 #[.agg #[.int .i64 n, .int .i64 d], .agg #[.int .i64 m, .int .i64 c]] w fun e w' => e = .returned (.bool true) ∧ Below w.heap.size w w' := by
  cases k : rightB n d
  · exact ratLeast_a n d m c w k
  · cases k1 : rightB m c
    · exact ratLeast_b n d m c w k k1
    · obtain ⟨x1, _⟩ := (right_iff _ _).1 k
      obtain ⟨x2, _⟩ := (right_iff _ _).1 k1
      have t1 := least_right k
      have t2 := least_same k
      have t3 := lD_le (n := n) x1
      have t4 : cmpI n d n d = 0 := by rw [cmpI_right k k]; exact sgn_eq rfl
      have t5 : cmpI m c m c = 0 := by rw [cmpI_right k1 k1]; exact sgn_eq rfl
      have e1 := cmpI_right k k1
      have e2 := cmpI_right k1 k
      have li := least_iff (n := n) (d := d) (m := m) (c := c) x1 x2
      rcases sgn_cases (n * c) (m * d) with ⟨a, b⟩ | ⟨a, b⟩ | ⟨a, b⟩
      · have h2 : cmpI m c n d = 1 := by rw [e2]; exact sgn_gt a
        have ne : ¬ (lN n d = lN m c ∧ lD n d = lD m c) := fun h => by have := li.2 h; omega
        by_cases hm : m = n
        · subst hm
          have hc : c ≠ d := fun h => by subst h; omega
          by_cases hx : lN m d = lN m c
          · exact ratLeast_same m d c w k k1 t1 t2 t3 t4 t5 (Or.inr ⟨by omega, h2, hx.symm, fun h => ne ⟨hx, h⟩, hc⟩)
          · exact ratLeast_same m d c w k k1 t1 t2 t3 t4 t5 (Or.inl ⟨by omega, h2, hx, hc⟩)
        · by_cases hx : lN n d = lN m c
          · exact ratLeast_x n d m c w k k1 t1 t2 t3 t4 t5 (Or.inr (Or.inl ⟨by omega, h2, hx.symm, fun h => ne ⟨hx, h⟩, hm⟩))
          · exact ratLeast_x n d m c w k k1 t1 t2 t3 t4 t5 (Or.inl ⟨by omega, h2, hx, hm⟩)
      · obtain ⟨y1, y2⟩ := li.1 a
        exact ratLeast_x n d m c w k k1 t1 t2 t3 t4 t5 (Or.inr (Or.inr (Or.inl ⟨by omega, y1.symm, y2.symm⟩)))
      · have ne : ¬ (lN n d = lN m c ∧ lD n d = lD m c) := fun h => by have := li.2 h; omega
        by_cases hx : lN n d = lN m c
        · exact ratLeast_x n d m c w k k1 t1 t2 t3 t4 t5 (Or.inr (Or.inr (Or.inr (Or.inr ⟨by omega, hx.symm, fun h => ne ⟨hx, h⟩⟩))))
        · exact ratLeast_x n d m c w k k1 t1 t2 t3 t4 t5 (Or.inr (Or.inr (Or.inr (Or.inl ⟨by omega, hx⟩))))

set_option maxRecDepth 100000 in
theorem ratLeast_lifted (os : Os) (started : os.Started) (H : Type) (enc : TypeId × Value → H) :
    ReturnsInHanded {} Try.checked os 6 .any (Rows.ratLeastSpec.pre6 enc Try.prog Try.f6 Rows.ratLeastRow.domain false) (Rows.ratLeastSpec.post enc Try.prog Try.f6 false true false false) := by
  refine returnsInHanded_of_change (C := Try.checked) Try.own started (by kernel_rfl) Try.func6
    (ChangeSpec.witness6 (enc := enc) (C := Try.checked) false ⟨#[], #[.agg #[.int .i64 0, .int .i64 0], .agg #[.int .i64 0, .int .i64 0]], []⟩ 8 (by kernel_rfl) (by kernel_rfl) (by kernel_rfl) (by kernel_rfl)) ?_
  intro W base args ds gs before hval0 hW _ _
  have hval : ∀ (j : Nat) t v, Try.f6.params[j]? = some t → args[j]? = some v → Value.okWide Try.prog W .any base t v := hval0
  have hW' := hW
  obtain ⟨p, q, hA0, hV, rfl, _, _⟩ := hW
  have hA : DataW.TrodAll enc Try.prog W 0 (fun _ => true) true Try.f6.params.toList args.toList ds p := hA0
  rw [Try.params6] at hA hval
  obtain ⟨v0, v1, d0, d1, p0, p1, rfl, rfl, rfl, h0, h1⟩ := trodAll_two hA
  obtain ⟨rfl, rfl⟩ := trodVars_none hV
  obtain ⟨c0, c1, y0, y1, m, rfl, rfl, rfl, hy0, hy1⟩ := open_agg2 Try.underlying23 (by kernel_rfl) Try.cells23 (hval 0 23 v0 rfl rfl) h0
  obtain ⟨a, e0, rfl, wa⟩ := DataW.trod_int Try.underlying3 hy0
  obtain ⟨b, e1, rfl, wb⟩ := DataW.trod_int Try.underlying3 hy1
  obtain ⟨c2, c3, y2, y3, m', rfl, rfl, rfl, hy2, hy3⟩ := open_agg2 Try.underlying23 (by kernel_rfl) Try.cells23 (hval 1 23 v1 rfl rfl) h1
  obtain ⟨c, e2, rfl, wc⟩ := DataW.trod_int Try.underlying3 hy2
  obtain ⟨d, e3, rfl, wd⟩ := DataW.trod_int Try.underlying3 hy3
  simp at e0 e1 e2 e3
  subst e0 e1 e2 e3
  clear hA0 hval0
  simp only [List.append_nil] at hW'
  refine (ratLeast_any a b c d W).mono fun e W' ⟨he, bel⟩ => ?_
  subst he
  exact ⟨_, rfl, _, _, _, [], [], [], hW', trodAll_mk1 (shut_bool Try.underlying4 _), trodAll_mk2 (reads wa wb _ _) (reads wc wd _ _), rfl, bel.frame _, fun h => by cases h⟩

theorem ratLeast_holds : Rows.RatLeastSaid :=
  OpenClaim.holds_of_wide 6 Try.f6 rfl rfl rfl rfl rfl rfl rfl ⟨rfl, rfl, rfl, rfl, rfl⟩ rfl rfl rfl rfl rfl (by kernel_rfl) Try.func6 (by kernel_rfl)
    (of_decide_eq_true (by kernel_rfl)) (by unfold Func.isWrapper; first | (rw [if_pos (by decide +kernel)]; kernel_rfl) | (rw [if_neg (by decide +kernel)]; exact ⟨rfl, rfl⟩))
    (fun os started H enc _ => ratLeast_lifted os started H enc)
#print axioms ratLeast_holds
end Go.Proofs.Ytojelhdlomcdpaa
