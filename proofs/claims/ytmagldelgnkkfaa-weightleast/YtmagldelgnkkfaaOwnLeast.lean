/-
  Proved: for every slice of words of 64 bits the Go function WeightLeast of the statements of layer 3 returns true (of the floats of its first hundred words the least is the first one ahead of which none stands, and the middle one stands in the middle of all), and its argument reads as before (the whole statement, no condition beside its own).
-/
import Derived.Test.YtmagldelgnkkfaaP
import Derived.Test.YtmagldelgnkkfaaT
import Derived.SizedLaws
import Derived.ChangeSlices
namespace Go.Proofs.Ytmagldelgnkkfaa
open Go.ChangeShapes Go.WideShapes Go.ChangeAt Go.RowKit Go.WideMaps Go.WideElems Go.Joins

theorem Try.laidOut : laidOutB Try.prog = true := by kernel_rfl
theorem Try.cells22 : Try.prog.cellsOf 22 = 1 := by kernel_rfl
theorem Try.bytes22 : Try.prog.bytesOf 22 = 8 := by kernel_rfl

theorem open_words {H : Type} {enc : TypeId × Value → H} {W : World} {base : Nat} {v : Value} {d : DataW H} {p : List MemPlace} (hv : Value.okWide Try.prog W .any base 33 v) (h : DataW.Trod enc Try.prog W 0 (fun _ => true) true 33 v d p)
    (hsz : ∀ elems spare, d = .slice elems spare → (elems.length + spare.length) * 8 ≤ 140737488351232) (hlt : ∀ x ∈ p, x.block < W.heap.size) :
    ∃ ns, SlU W v ns := by
  obtain ⟨a0, len, cap, rfl⟩ := okWide_slice Try.underlying33 hv
  obtain ⟨fuel, hf⟩ := h
  rcases open_ints Try.underlying33 Try.underlying22 Try.cells22 hf with ⟨hcs, hx⟩ | ⟨a, len', cap', zs, hcs, _, hl, hm, hz, hx, hcell, hwz⟩
  · simp [Value.cells] at hcs
    obtain ⟨rfl, rfl, rfl⟩ := hcs
    exact ⟨[], fun i => by simp, by simp, none, 0, rfl, Or.inl rfl⟩
  · simp [Value.cells] at hcs
    obtain ⟨rfl, rfl, rfl⟩ := hcs
    simp only [Prod.mk.injEq] at hx
    obtain ⟨rfl, rfl⟩ := hx
    simp only [if_true] at hz
    have hlen : ((zs.take len).map Int.toNat).length = len := by rw [List.length_map, List.length_take]; omega
    have hreach : len * 8 ≤ 140737488351232 := by
      have := hsz _ _ rfl
      simp only [lits, List.length_map, List.length_take, List.length_drop] at this
      omega
    have get : ∀ i, i < len → (((zs.take len).map Int.toNat).getD i 0 : Nat) = (zs.getD i 0).toNat := by
      intro i hi
      have h1 : i < zs.length := by omega
      simp [List.getD, hi, h1]
    have bnd : ∀ i, i < len → 0 ≤ zs.getD i 0 ∧ zs.getD i 0 < 18446744073709551616 := by
      intro i hi
      have h1 : i < zs.length := by omega
      have h2 : zs.getD i 0 = zs[i] := by simp [h1]
      obtain ⟨n, e, hn⟩ := u64_of_wf (hwz zs[i] (List.getElem_mem h1))
      rw [h2]; omega
    refine ⟨(zs.take len).map Int.toNat, fun i => ?_, by rw [hlen]; exact hreach, some a, cap, by rw [hlen], ?_⟩
    · by_cases hi : i < len
      · rw [get i hi]; have := bnd i hi; omega
      · rw [List.getD_eq_getElem?_getD, List.getElem?_eq_none (by rw [hlen]; omega)]; simp
    · by_cases h0 : len = 0
      · left; exact List.eq_nil_of_length_eq_zero (by rw [hlen]; exact h0)
      · right
        obtain ⟨b, off, spot⟩ := a
        have hspot : spot = none := by simpa [Addr.add] using World.cell?_spot (hcell 0 (by omega))
        subst hspot
        refine ⟨b, off, rfl, hlt (.cell b off) (MemPlace.mem_row.2 ⟨0, by omega, by simp⟩), fun i hi => ?_⟩
        rw [hlen] at hi
        have h1 := hcell i (by omega)
        rw [Addr.add_lit] at h1
        rw [h1, get i hi]
        have := bnd i hi
        rw [Int.toNat_of_nonneg this.1]

set_option maxRecDepth 100000 in
theorem weightLeast_lifted (os : Os) (started : os.Started) (H : Type) (enc : TypeId × Value → H) :
    ReturnsInHanded {} Try.checked os 6 .any (Rows.weightLeastSpec.pre6 enc Try.prog Try.f6 Rows.weightLeastRow.domain false) (Rows.weightLeastSpec.post enc Try.prog Try.f6 false true false false) := by
  refine returnsInHanded_of_change_sized (C := Try.checked) Try.own started (by kernel_rfl) Try.func6
    (ChangeSpec.witness6 (enc := enc) (C := Try.checked) false ⟨#[], #[.slice none 0 0], []⟩ 8 (by kernel_rfl) (by kernel_rfl) (by kernel_rfl) (by kernel_rfl)) ?_
  intro W base args ds gs before hval0 hW _ hsz0 _
  have hsz : (DataW.weightsEach Try.prog (Try.f6.params.toList ++ Rows.weightLeastSpec.plain.varTypes Try.prog) (ds ++ gs)).all (· ≤ reachBytes) = true := hsz0
  clear hsz0
  have hval : ∀ (j : Nat) t v, Try.f6.params[j]? = some t → args[j]? = some v → Value.okWide Try.prog W .any base t v := hval0
  have hW' := hW
  obtain ⟨p, q, hA0, hV, rfl, _, _⟩ := hW
  have hA : DataW.TrodAll enc Try.prog W 0 (fun _ => true) true Try.f6.params.toList args.toList ds p := hA0
  rw [Try.params6] at hA hval hsz
  obtain ⟨v0, d0, rfl, rfl, h0⟩ := trodAll_one hA
  obtain ⟨rfl, rfl⟩ := trodVars_none hV
  clear hA0 hval0
  simp only [List.append_nil] at hW'
  have lt0 : ∀ x ∈ p, x.block < W.heap.size := fun x hx => by simpa using hW'.lt x (by simp [hx])
  obtain ⟨ns, s0⟩ := open_words (hval 0 33 v0 rfl rfl) h0 (fun elems spare e => by subst e; have := sized_slice hsz (j := 0) (t := 33) (e := 22) rfl rfl Try.underlying33; rw [Try.bytes22] at this; exact this) lt0
  refine (weightLeast_any v0 ns W s0).mono fun e W' ⟨he, bel⟩ => ?_
  subst he
  exact ⟨_, rfl, _, _, _, [], _, [], hW', trodAll_mk1 (shut_bool Try.underlying4 _), trodAll_mk1 (Below.trod Try.laidOut (by kernel_rfl) (of_decide_eq_true (by kernel_rfl)) h0 bel lt0), rfl, bel.frame _, fun h => by cases h⟩

theorem weightLeast_holds : Rows.WeightLeastSaid :=
  OpenClaim.holds_of_wide 6 Try.f6 rfl rfl rfl rfl rfl rfl rfl ⟨rfl, rfl, rfl, rfl, rfl⟩ rfl rfl rfl rfl rfl (by kernel_rfl) Try.func6 (by kernel_rfl)
    (of_decide_eq_true (by kernel_rfl)) (by unfold Func.isWrapper; first | (rw [if_pos (by decide +kernel)]; kernel_rfl) | (rw [if_neg (by decide +kernel)]; exact ⟨rfl, rfl⟩))
    (fun os started H enc _ => weightLeast_lifted os started H enc)
#print axioms weightLeast_holds
end Go.Proofs.Ytmagldelgnkkfaa
