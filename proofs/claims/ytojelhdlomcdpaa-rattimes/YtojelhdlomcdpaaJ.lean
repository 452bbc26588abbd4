/-
  Proved: for every two values of the moments' type and every int the Go function RatTimes of the statements of layer 1 returns true, and its arguments read as before (the whole statement, no condition beside its own).
-/
import Derived.Test.YtojelhdlomcdpaaP
import Derived.Test.YtojelhdlomcdpaaI
namespace Go.Proofs.Ytojelhdlomcdpaa
open Go.ChangeShapes Go.WideShapes Go.ChangeAt Go.RowKit Go.Joins

theorem ratTimes_any (n d m c t : Int) (w : World) :
    Calls Try.prog 7 #[.agg #[.int .i64 n, .int .i64 d], .agg #[.int .i64 m, .int .i64 c], .int .i64 t] w fun e w' => e = .returned (.bool true) ∧ Below w.heap.size w w' := by
  cases k : rightB n d
  · exact ratTimes_a n d m c t w k
  · cases k1 : rightB m c
    · exact ratTimes_b n d m c t w k k1
    · by_cases h1 : t < 1
      · exact ratTimes_c n d m c t w k k1 h1
      · by_cases h2 : 1024 < t
        · exact ratTimes_d n d m c t w k k1 h2 (by omega)
        · obtain ⟨x1, x2, x3, x4⟩ := (right_iff _ _).1 k
          have p1 := prod_bd (n := n) (d := t) x3 x4 (by omega) (by omega)
          have p2 := prod_bd (n := d) (d := t) (by omega) (by omega) (by omega) (by omega)
          cases k2 : rightB (n * t) (d * t)
          · exact ratTimes_far n d m c t w k k1 (by omega) (by omega) p1 p2 (cmpI_no2 k2) k2
          · have e1 : cmpI n d (n * t) (d * t) = 0 := by
              rw [cmpI_right k k2]; exact sgn_eq (by ac_rfl)
            have e2 : cmpI (n * t) (d * t) m c = cmpI n d m c := by
              rw [cmpI_right k2 k1, cmpI_right k k1, show n * t * c = n * c * t by ac_rfl, show m * (d * t) = m * d * t by ac_rfl]
              exact sgn_mul (by omega)
            obtain ⟨e3, e4⟩ := lN_times (n := n) (d := d) (t := t) x1 (by omega)
            exact ratTimes_near n d m c t w k k1 (by omega) (by omega) p1 p2 e1 k2 e2 e3 e4

set_option maxRecDepth 100000 in
theorem ratTimes_lifted (os : Os) (started : os.Started) (H : Type) (enc : TypeId × Value → H) :
    ReturnsInHanded {} Try.checked os 7 .any (Rows.ratTimesSpec.pre6 enc Try.prog Try.f7 Rows.ratTimesRow.domain false) (Rows.ratTimesSpec.post enc Try.prog Try.f7 false true false false) := by
  refine returnsInHanded_of_change (C := Try.checked) Try.own started (by kernel_rfl) Try.func7
    (ChangeSpec.witness6 (enc := enc) (C := Try.checked) false ⟨#[], #[.agg #[.int .i64 0, .int .i64 0], .agg #[.int .i64 0, .int .i64 0], .int .i64 0], []⟩ 8 (by kernel_rfl) (by kernel_rfl) (by kernel_rfl) (by kernel_rfl)) ?_
  intro W base args ds gs before hval0 hW _ _
  have hval : ∀ (j : Nat) t v, Try.f7.params[j]? = some t → args[j]? = some v → Value.okWide Try.prog W .any base t v := hval0
  have hW' := hW
  obtain ⟨p, q, hA0, hV, rfl, _, _⟩ := hW
  have hA : DataW.TrodAll enc Try.prog W 0 (fun _ => true) true Try.f7.params.toList args.toList ds p := hA0
  rw [Try.params7] at hA hval
  obtain ⟨v0, v1, v2, d0, d1, d2, p0, p1, p2, rfl, rfl, rfl, h0, h1, h2⟩ := trodAll_three hA
  obtain ⟨rfl, rfl⟩ := trodVars_none hV
  obtain ⟨c0, c1, y0, y1, m, rfl, rfl, rfl, hy0, hy1⟩ := open_agg2 Try.underlying23 (by kernel_rfl) Try.cells23 (hval 0 23 v0 rfl rfl) h0
  obtain ⟨a, e0, rfl, wa⟩ := DataW.trod_int Try.underlying3 hy0
  obtain ⟨b, e1, rfl, wb⟩ := DataW.trod_int Try.underlying3 hy1
  obtain ⟨c2, c3, y2, y3, m', rfl, rfl, rfl, hy2, hy3⟩ := open_agg2 Try.underlying23 (by kernel_rfl) Try.cells23 (hval 1 23 v1 rfl rfl) h1
  obtain ⟨c, e2, rfl, wc⟩ := DataW.trod_int Try.underlying3 hy2
  obtain ⟨d, e3, rfl, wd⟩ := DataW.trod_int Try.underlying3 hy3
  obtain ⟨t, rfl, rfl, rfl, wt⟩ := open_int Try.underlying3 (hval 2 3 v2 rfl rfl) h2
  simp at e0 e1 e2 e3
  subst e0 e1 e2 e3
  clear hA0 hval0
  simp only [List.append_nil] at hW'
  refine (ratTimes_any a b c d t W).mono fun e W' ⟨he, bel⟩ => ?_
  subst he
  exact ⟨_, rfl, _, _, _, [], [], [], hW', trodAll_mk1 (shut_bool Try.underlying4 _), trodAll_mk3 (reads wa wb _ _) (reads wc wd _ _) (shut_int Try.underlying3 wt), rfl, bel.frame _, fun h => by cases h⟩

theorem ratTimes_holds : Rows.RatTimesSaid :=
  OpenClaim.holds_of_wide 7 Try.f7 rfl rfl rfl rfl rfl rfl rfl ⟨rfl, rfl, rfl, rfl, rfl⟩ rfl rfl rfl rfl rfl (by kernel_rfl) Try.func7 (by kernel_rfl)
    (of_decide_eq_true (by kernel_rfl)) (by unfold Func.isWrapper; first | (rw [if_pos (by decide +kernel)]; kernel_rfl) | (rw [if_neg (by decide +kernel)]; exact ⟨rfl, rfl⟩))
    (fun os started H enc _ => ratTimes_lifted os started H enc)
#print axioms ratTimes_holds
end Go.Proofs.Ytojelhdlomcdpaa
