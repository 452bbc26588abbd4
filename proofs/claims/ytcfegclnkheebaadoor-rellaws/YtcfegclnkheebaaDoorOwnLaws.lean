/-
  RelLaws: laid together in any grouping, turned about twice, a way's ways are the same: the law returns true for every input, and each argument reads behind the call as it read before.
  Its conditions: the library's table of the trailing zeros (math/bits) starts as its text lays it, which the card ties to the program's text (a pruned copy: the packages that the seat's roots load); what came in fits the row's own bounds.
-/
import Derived.Test.YtcfegclnkheebaaDoorLift
import Derived.Test.YtcfegclnkheebaaDoorU
import Derived.Test.YtcfegclnkheebaaDoorCards
import Derived.Test.YtcfegclnkheebaaDoorTie
import Derived.SevenTiedAt
namespace Go.Proofs.YtcfegclnkheebaaDoor
open Go.ChangeShapes Go.WideShapes Go.ChangeAt Go.RowKit Go.WideMaps Go.WideElems

set_option maxRecDepth 100000 in
theorem relLaws_lifted (os : Os) (started : os.Started) (H : Type) (enc : TypeId × Value → H) :
    ReturnsInHanded {} Tryd.checked os 7 .any (fun w args => (Rows.relLawsSpec.pre enc Tryd.prog Tryd.f7 [] false w args ∧ laidMetH Tryd.prog laidT w) ∧ sizedMet enc Tryd.prog Tryd.f7 (OpenSpec.ofChange Rows.relLawsSpec) false w args) (Rows.relLawsSpec.post enc Tryd.prog Tryd.f7 false true false false) := by
  refine returnsInHanded_of_change_and (C := Tryd.checked) (X := fun w _ => laidMetH Tryd.prog laidT w) (fun _ _ _ hh h => h.of_heap hh) Tryd.own started (by kernel_rfl) Tryd.func7
    (ChangeSpec.witness_shaped (enc := enc) (C := Tryd.checked) (os := os) (X := fun w _ => laidMetH Tryd.prog laidT w) false (World.doorLaid Tryd.prog 400 os) #[.slice none 0 0, .slice none 0 0, .slice none 0 0] 8 rfl (World.shaped_of_RefB (by kernel_rfl) (by kernel_rfl)) (by kernel_rfl) (by kernel_rfl) (by kernel_rfl) (door_met os _)) ?_
  intro W base args ds gs before hval0 hW _ hsz0 hL _
  have tab := tab_of_laid hL
  have hsz : (DataW.weightsEach Tryd.prog (Tryd.f7.params.toList ++ Rows.relLawsSpec.plain.varTypes Tryd.prog) (ds ++ gs)).all (· ≤ reachBytes) = true := hsz0
  clear hsz0
  have hval : ∀ (j : Nat) t v, Tryd.f7.params[j]? = some t → args[j]? = some v → Value.okWide Tryd.prog W .any base t v := hval0
  have hW' := hW
  obtain ⟨p, q, hA0, hV, rfl, _, _⟩ := hW
  have hA : DataW.TrodAll enc Tryd.prog W 0 (fun _ => true) true Tryd.f7.params.toList args.toList ds p := hA0
  rw [Tryd.params7] at hA hval hsz
  obtain ⟨v0, v1, v2, d0, d1, d2, p0, p1, p2, rfl, rfl, rfl, h0, h1, h2⟩ := trodAll_three hA
  obtain ⟨rfl, rfl⟩ := trodVars_none hV
  clear hA0 hval0
  simp only [List.append_nil] at hW'
  have lt0 : ∀ x ∈ p0, x.block < W.heap.size := fun x hx => by simpa using hW'.lt x (by simp [hx])
  obtain ⟨a0, cap0, zs0, rfl, s0, hc0, hz0⟩ := open_rel (hval 0 23 v0 rfl rfl) h0 (fun elems spare e => by subst e; have := sized_slice hsz (j := 0) (t := 23) (e := 43) rfl rfl Tryd.underlying23; rw [Tryd.bytes43] at this; exact this) lt0
  have lt1 : ∀ x ∈ p1, x.block < W.heap.size := fun x hx => by simpa using hW'.lt x (by simp [hx])
  obtain ⟨a1, cap1, zs1, rfl, s1, hc1, hz1⟩ := open_rel (hval 1 23 v1 rfl rfl) h1 (fun elems spare e => by subst e; have := sized_slice hsz (j := 1) (t := 23) (e := 43) rfl rfl Tryd.underlying23; rw [Tryd.bytes43] at this; exact this) lt1
  have lt2 : ∀ x ∈ p2, x.block < W.heap.size := fun x hx => by simpa using hW'.lt x (by simp [hx])
  obtain ⟨a2, cap2, zs2, rfl, s2, hc2, hz2⟩ := open_rel (hval 2 23 v2 rfl rfl) h2 (fun elems spare e => by subst e; have := sized_slice hsz (j := 2) (t := 23) (e := 43) rfl rfl Tryd.underlying23; rw [Tryd.bytes43] at this; exact this) lt2
  refine (relLaws_walk rel2 (awake_walk rel2 ofC) a0 a1 a2 cap0 cap1 cap2 zs0 zs1 zs2 W tab s0 s1 s2 hc0 hc1 hc2 hz0 hz1 hz2).mono fun e W' ⟨he, bel⟩ => ?_
  subst he
  exact ⟨_, rfl, _, _, _, [], _, [], hW', trodAll_mk1 (shut_bool Tryd.underlying4 _), trodAll_mk3 (Below.trod Tryd.laidOut (by kernel_rfl) (of_decide_eq_true (by kernel_rfl)) h0 bel lt0) (Below.trod Tryd.laidOut (by kernel_rfl) (of_decide_eq_true (by kernel_rfl)) h1 bel lt1) (Below.trod Tryd.laidOut (by kernel_rfl) (of_decide_eq_true (by kernel_rfl)) h2 bel lt2), rfl, bel.frame _, fun h => by cases h⟩

theorem relLaws_holds : Rows.RelLawsSaid :=
  OpenClaim.holds_of_wide 7 Tryd.f7 rfl rfl rfl rfl rfl rfl rfl ⟨rfl, rfl, rfl, rfl, rfl⟩ rfl rfl rfl rfl rfl (by kernel_rfl) Tryd.func7 (by kernel_rfl)
    (of_decide_eq_true (by kernel_rfl)) (by unfold Func.isWrapper; first | (rw [if_pos (by decide +kernel)]; kernel_rfl) | (rw [if_neg (by decide +kernel)]; exact ⟨rfl, rfl⟩))
    (fun os started H enc _ => relLaws_lifted os started H enc)

theorem relLaws_card : Rows.RelLawsCardSaid :=
  Claim7.holds_tied_plain_at .later [] [.data] true (true, "82e99c3f6d0e9b0859fb99f82faee905f907cefcfe8fc3cd6c68d5de62b5672d") false
    relLaws_holds (fun _ h => by cases h) (by kernel_rfl) (fun _ h => by cases h) relLaws_row_tie rfl ⟨rfl, rfl⟩ (by kernel_rfl) rfl
    (fun f fn hf hfn => by
      obtain rfl : f = 7 := Option.some.inj ((show Tryd.prog.funcNamed "selvage/selvagelaw02.RelLaws" = some 7 by kernel_rfl).symm.trans hf) |>.symm
      obtain rfl : fn = Tryd.f7 := (Option.some.inj (Tryd.func7.symm.trans hfn)).symm
      exact ⟨by kernel_rfl, fun j t ht => by
        rw [Tryd.params7] at ht
        have hm : t ∈ [23, 23, 23] := by simpa using Array.mem_of_getElem? ht
        have hall : ([23, 23, 23].all fun u => !Tryd.prog.wantsStandIn u) = true := by kernel_rfl
        exact (show Tryd.prog.wantsStandIn t = false by simpa using List.all_eq_true.1 hall t hm)⟩)
    (by kernel_rfl)
#print axioms relLaws_card
end Go.Proofs.YtcfegclnkheebaaDoor
