/-
  From contracts of the program's own functions to the rows: relations, as data.
-/
import Derived.Test.YtcfegclnkheebaaDoorRows
import Derived.Test.YtcfegclnkheebaaDoorZ
import Derived.Test.YtcfegclnkheebaaDoorPj
import Derived.LaidMore
import Derived.Stop.Joined
import Derived.ProofKit
import Derived.SizedLaws
import Derived.OpenShut
namespace Go.Proofs.YtcfegclnkheebaaDoor
open Go.ChangeShapes Go.WideShapes Go.ChangeAt Go.RowKit Go.WideMaps Go.WideElems

theorem Tryd.own : ownKnob Tryd.prog.godebug = none := by kernel_rfl
theorem Tryd.laidOut : laidOutB Tryd.prog = true := by kernel_rfl
theorem Tryd.cells43 : Tryd.prog.cellsOf 43 = 1 := by kernel_rfl
theorem Tryd.bytes43 : Tryd.prog.bytesOf 43 = 8 := by kernel_rfl

/-- What the row lays of the variable. -/
def laidT : List (String × DataW Unit) := [("math/bits.deBruijn64tab", Rows.laid_math_bits_deBruijn64tab)]
theorem gT : Tryd.prog.globalNamed "math/bits.deBruijn64tab" = some 0 := by kernel_rfl
theorem tT : (Tryd.prog.globals[0]?).map (·.type) = some 60 := by kernel_rfl
theorem door_met (os : Os) (args : Array Value) : laidMetH Tryd.prog laidT ((World.doorLaid Tryd.prog 400 os).forCall (fun _ _ => 0) ⟨#[], args, []⟩).memory :=
  laidMetH_of_parts3 (fuel := 8) (laidMet_of_run' 8 (by kernel_rfl) (by kernel_rfl)) (by kernel_rfl) (by kernel_rfl)
theorem laid_tab : (Rows.laid_math_bits_deBruijn64tab : DataW Unit) = .agg (Lib.deBruijn64tab.map fun (z : Nat) => DataW.lit (Lit.int .u8 (z : Int))) := rfl
theorem tab_of_laid {W : World} (h : laidMetH Tryd.prog laidT W) : Tab W := by
  rw [MakeChecks.laidMetH_plain _ _ _ (by kernel_rfl)] at h
  obtain ⟨ps, ⟨g0, t0, cs0, f0, p0, q0, hg0, ht0, hv0, hd0, _, _⟩, _, _⟩ := h
  obtain rfl := Option.some.inj (gT.symm.trans hg0)
  obtain rfl := Option.some.inj (tT.symm.trans ht0)
  obtain ⟨xs, m1, rfl, hx1, _, hn, hel⟩ := DataW.trod_array Tryd.underlying60 hd0
  rw [laid_tab] at hx1
  simp only [Prod.mk.injEq, DataW.agg.injEq] at hx1
  have c5 : Tryd.prog.cellsOf 5 = 1 := by kernel_rfl
  intro j hj
  have h1 := hel j hj
  have hj' : j < xs.length := by omega
  rw [List.getElem?_eq_getElem hj'] at h1
  obtain ⟨k, e1, e2, _⟩ := DataW.trod_int Tryd.underlying5 h1
  have e3 : (xs.map (·.1))[j]? = some (DataW.lit (Lit.int .u8 k)) := by
    rw [List.getElem?_map, List.getElem?_eq_getElem hj', e2]; rfl
  have hjt : j < Lib.deBruijn64tab.length := hj
  rw [← hx1.1, List.getElem?_map, List.getElem?_eq_getElem hjt] at e3
  simp only [Option.map_some, Option.some.injEq, DataW.lit.injEq, Lit.int.injEq, true_and] at e3
  have hk : Lib.deBruijn64tab.getD j 0 = Lib.deBruijn64tab[j] := by simp [hjt]
  rw [World.var?_cell hg0 hv0 j, hk, e3]
  rw [c5, Nat.mul_one] at e1
  have e4 : (cs0.toList.drop j)[0]? = some (Value.int .u8 k) := by
    have : ((cs0.toList.drop j).take 1)[0]? = some (Value.int .u8 k) := by rw [e1]; rfl
    rwa [List.getElem?_take_of_lt (by omega)] at this
  rw [List.getElem?_drop, Nat.add_zero, Array.getElem?_toList] at e4
  exact e4

theorem open_rel {H : Type} {enc : TypeId × Value → H} {W : World} {base : Nat} {v : Value} {d : DataW H} {p : List MemPlace} (hv : Value.okWide Tryd.prog W .any base 23 v) (h : DataW.Trod enc Tryd.prog W 0 (fun _ => true) true 23 v d p)
    (hsz : ∀ elems spare, d = .slice elems spare → (elems.length + spare.length) * 8 ≤ 140737488351232) (hlt : ∀ x ∈ p, x.block < W.heap.size) :
    ∃ a cap zs, v = .slice a zs.length cap ∧ Sl W (.slice a zs.length cap) zs ∧ zs.length ≤ cap ∧ (a = none → cap = 0) := by
  obtain ⟨a0, len, cap, rfl⟩ := okWide_slice Tryd.underlying23 hv
  obtain ⟨fuel, hf⟩ := h
  rcases open_ints Tryd.underlying23 Tryd.underlying43 Tryd.cells43 hf with ⟨hcs, hx⟩ | ⟨a, len', cap', zs, hcs, _, hl, hm, hz, hx, hcell, hwz⟩
  · simp [Value.cells] at hcs
    obtain ⟨rfl, rfl, rfl⟩ := hcs
    exact ⟨none, 0, [], rfl, Sl.nil _, Nat.le_refl _, fun _ => rfl⟩
  · simp [Value.cells] at hcs
    obtain ⟨rfl, rfl, rfl⟩ := hcs
    simp only [Prod.mk.injEq] at hx
    obtain ⟨rfl, rfl⟩ := hx
    simp only [if_true] at hz
    have hlen : ((zs.take len).map Int.toNat).length = len := by rw [List.length_map, List.length_take]; omega
    have hreach : len * 8 ≤ 140737488351232 := by
      have := hsz _ _ rfl
      simp only [lits, List.length_map, List.length_take, List.length_drop] at this
      omega
    have get : ∀ i, i < len → (((zs.take len).map Int.toNat).getD i 0 : Nat) = (zs.getD i 0).toNat := by
      intro i hi
      have h1 : i < zs.length := by omega
      simp [List.getD, hi, h1]
    have bnd : ∀ i, i < len → 0 ≤ zs.getD i 0 ∧ zs.getD i 0 < 18446744073709551616 := by
      intro i hi
      have h1 : i < zs.length := by omega
      have h2 : zs.getD i 0 = zs[i] := by simp [h1]
      have h3 := hwz zs[i] (List.getElem_mem h1)
      rw [h2]
      have := bounds_u64 h3
      omega
    refine ⟨some a, cap, (zs.take len).map Int.toNat, by rw [hlen], ?_, by rw [hlen]; exact hl, fun h => by simp at h⟩
    refine ⟨fun i => ?_, by rw [hlen]; exact hreach, _, cap, rfl, ?_⟩
    · by_cases hi : i < len
      · rw [get i hi]; have := bnd i hi; omega
      · rw [List.getD_eq_getElem?_getD, List.getElem?_eq_none (by rw [hlen]; omega)]; simp
    · by_cases h0 : len = 0
      · left; exact List.eq_nil_of_length_eq_zero (by rw [hlen]; exact h0)
      · right
        obtain ⟨b, off, spot⟩ := a
        have hspot : spot = none := by simpa [Addr.add] using World.cell?_spot (hcell 0 (by omega))
        subst hspot
        refine ⟨b, off, rfl, hlt (.cell b off) (MemPlace.mem_row.2 ⟨0, by omega, by simp⟩), fun i hi => ?_⟩
        rw [hlen] at hi
        have h1 := hcell i (by omega)
        rw [Addr.add_lit] at h1
        rw [h1, get i hi]
        have := bnd i hi
        rw [Int.toNat_of_nonneg this.1]
end Go.Proofs.YtcfegclnkheebaaDoor
