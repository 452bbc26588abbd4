/-
  Proved: for every three values of the moments' type the Go function RatOrder of the statements of layer 1 returns true, and its arguments read as before (the whole statement, no condition beside its own).
-/
import Derived.Test.YtojelhdlomcdpaaP
import Derived.Test.YtojelhdlomcdpaaG
namespace Go.Proofs.Ytojelhdlomcdpaa
open Go.ChangeShapes Go.WideShapes Go.ChangeAt Go.RowKit Go.Joins

theorem tr_le {n d m c q r : Int} (hd : 1 ≤ d) (hc : 1 ≤ c) (hr : 1 ≤ r) (h1 : n * c ≤ m * d) (h2 : m * r ≤ q * c) : n * r ≤ q * d := by
  have a := Int.mul_le_mul_of_nonneg_right h1 (show 0 ≤ r by omega)
  have b := Int.mul_le_mul_of_nonneg_right h2 (show 0 ≤ d by omega)
  have e1 : n * c * r = n * r * c := by ac_rfl
  have e2 : m * d * r = m * r * d := by ac_rfl
  have e3 : q * c * d = q * d * c := by ac_rfl
  exact Int.le_of_mul_le_mul_right (show n * r * c ≤ q * d * c by omega) (by omega)
theorem sgn_le {x y : Int} : sgn x y ≤ 0 ↔ x ≤ y := by
  rcases sgn_cases x y with ⟨a, b⟩ | ⟨a, b⟩ | ⟨a, b⟩ <;> omega
theorem sgn_zero {x y : Int} : sgn x y = 0 ↔ x = y := by
  rcases sgn_cases x y with ⟨a, b⟩ | ⟨a, b⟩ | ⟨a, b⟩ <;> omega
theorem order_same {n d m c q r : Int} (hd : 1 ≤ d) (hc : 1 ≤ c) (h : n * c = m * d) : sgn (n * r) (q * d) = sgn (m * r) (q * c) := by
  rw [← sgn_mul (x := n * r) (y := q * d) hc, ← sgn_mul (x := m * r) (y := q * c) hd]
  have e1 : n * r * c = m * r * d := by
    rw [show n * r * c = n * c * r by ac_rfl, h]; ac_rfl
  have e2 : q * d * c = q * c * d := by ac_rfl
  rw [e1, e2]

theorem ratOrder_any (n d m c q r : Int) (w : World) :
    Calls Try.prog 4 #[.agg #[.int .i64 n, .int .i64 d], .agg #[.int .i64 m, .int .i64 c], .agg #[.int .i64 q, .int .i64 r]] w fun e w' => e = .returned (.bool true) ∧ Below w.heap.size w w' := by
  cases k : rightB n d
  · exact ratOrder_a n d m c q r w k (cmpI_no1 k)
  · cases k1 : rightB m c
    · exact ratOrder_b n d m c q r w k k1 (cmpI_no2 k1)
    · cases k2 : rightB q r
      · cases h : (cmpI n d m c == 0)
        · exact ratOrder_d n d m c q r w k k1 k2 h
        · exact ratOrder_c n d m c q r w k k1 k2 h
      · obtain ⟨x1, _⟩ := (right_iff _ _).1 k
        obtain ⟨x2, _⟩ := (right_iff _ _).1 k1
        obtain ⟨x3, _⟩ := (right_iff _ _).1 k2
        have t : cmpI n d n d = 0 := by rw [cmpI_right k k]; exact sgn_eq rfl
        have e1 := cmpI_right k k1
        have e2 := cmpI_right k1 k
        have e3 := cmpI_right k1 k2
        have e4 := cmpI_right k k2
        have ng := sgn_neg (n * c) (m * d)
        rcases sgn_cases (n * c) (m * d) with ⟨a, b⟩ | ⟨a, b⟩ | ⟨a, b⟩
        · by_cases u : 0 < cmpI m c q r
          · exact ratOrder_lt_gt n d m c q r w k k1 k2 t (by omega) (by omega) u
          · have v : cmpI n d q r ≤ 0 := by
              rw [e4, sgn_le]
              rw [e3] at u
              exact tr_le (m := m) x1 x2 x3 (by omega) (sgn_le.1 (by omega))
            exact ratOrder_lt_le n d m c q r w k k1 k2 t (by omega) (by omega) (by omega) v
        · have v : cmpI n d q r = cmpI m c q r := by rw [e4, e3]; exact order_same x1 x2 a
          by_cases u : 0 < cmpI m c q r
          · exact ratOrder_eq_gt n d m c q r w k k1 k2 t (by omega) (by omega) u v
          · exact ratOrder_eq_le n d m c q r w k k1 k2 t (by omega) (by omega) (by omega) v
        · exact ratOrder_gt n d m c q r w k k1 k2 t (by omega) (by omega)

set_option maxRecDepth 100000 in
theorem ratOrder_lifted (os : Os) (started : os.Started) (H : Type) (enc : TypeId × Value → H) :
    ReturnsInHanded {} Try.checked os 4 .any (Rows.ratOrderSpec.pre6 enc Try.prog Try.f4 Rows.ratOrderRow.domain false) (Rows.ratOrderSpec.post enc Try.prog Try.f4 false true false false) := by
  refine returnsInHanded_of_change (C := Try.checked) Try.own started (by kernel_rfl) Try.func4
    (ChangeSpec.witness6 (enc := enc) (C := Try.checked) false ⟨#[], #[.agg #[.int .i64 0, .int .i64 0], .agg #[.int .i64 0, .int .i64 0], .agg #[.int .i64 0, .int .i64 0]], []⟩ 8 (by kernel_rfl) (by kernel_rfl) (by kernel_rfl) (by kernel_rfl)) ?_
  intro W base args ds gs before hval0 hW _ _
  have hval : ∀ (j : Nat) t v, Try.f4.params[j]? = some t → args[j]? = some v → Value.okWide Try.prog W .any base t v := hval0
  have hW' := hW
  obtain ⟨p, q, hA0, hV, rfl, _, _⟩ := hW
  have hA : DataW.TrodAll enc Try.prog W 0 (fun _ => true) true Try.f4.params.toList args.toList ds p := hA0
  rw [Try.params4] at hA hval
  obtain ⟨v0, v1, v2, d0, d1, d2, p0, p1, p2, rfl, rfl, rfl, h0, h1, h2⟩ := trodAll_three hA
  obtain ⟨rfl, rfl⟩ := trodVars_none hV
  obtain ⟨c0, c1, y0, y1, m, rfl, rfl, rfl, hy0, hy1⟩ := open_agg2 Try.underlying23 (by kernel_rfl) Try.cells23 (hval 0 23 v0 rfl rfl) h0
  obtain ⟨a, e0, rfl, wa⟩ := DataW.trod_int Try.underlying3 hy0
  obtain ⟨b, e1, rfl, wb⟩ := DataW.trod_int Try.underlying3 hy1
  obtain ⟨c2, c3, y2, y3, m', rfl, rfl, rfl, hy2, hy3⟩ := open_agg2 Try.underlying23 (by kernel_rfl) Try.cells23 (hval 1 23 v1 rfl rfl) h1
  obtain ⟨c, e2, rfl, wc⟩ := DataW.trod_int Try.underlying3 hy2
  obtain ⟨d, e3, rfl, wd⟩ := DataW.trod_int Try.underlying3 hy3
  obtain ⟨c4, c5, y4, y5, m'', rfl, rfl, rfl, hy4, hy5⟩ := open_agg2 Try.underlying23 (by kernel_rfl) Try.cells23 (hval 2 23 v2 rfl rfl) h2
  obtain ⟨f, e4, rfl, wf⟩ := DataW.trod_int Try.underlying3 hy4
  obtain ⟨g, e5, rfl, wg⟩ := DataW.trod_int Try.underlying3 hy5
  simp at e0 e1 e2 e3 e4 e5
  subst e0 e1 e2 e3 e4 e5
  clear hA0 hval0
  simp only [List.append_nil] at hW'
  refine (ratOrder_any a b c d f g W).mono fun e W' ⟨he, bel⟩ => ?_
  subst he
  exact ⟨_, rfl, _, _, _, [], [], [], hW', trodAll_mk1 (shut_bool Try.underlying4 _), trodAll_mk3 (reads wa wb _ _) (reads wc wd _ _) (reads wf wg _ _), rfl, bel.frame _, fun h => by cases h⟩

theorem ratOrder_holds : Rows.RatOrderSaid :=
  OpenClaim.holds_of_wide 4 Try.f4 rfl rfl rfl rfl rfl rfl rfl ⟨rfl, rfl, rfl, rfl, rfl⟩ rfl rfl rfl rfl rfl (by kernel_rfl) Try.func4 (by kernel_rfl)
    (of_decide_eq_true (by kernel_rfl)) (by unfold Func.isWrapper; first | (rw [if_pos (by decide +kernel)]; kernel_rfl) | (rw [if_neg (by decide +kernel)]; exact ⟨rfl, rfl⟩))
    (fun os started H enc _ => ratOrder_lifted os started H enc)
#print axioms ratOrder_holds
end Go.Proofs.Ytojelhdlomcdpaa
