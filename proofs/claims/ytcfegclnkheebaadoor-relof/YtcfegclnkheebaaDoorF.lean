/-
  The walk of the statements' few.
-/
import Derived.Test.YtcfegclnkheebaaDoorE
namespace Go.Proofs.YtcfegclnkheebaaDoor
open Go.RowKit

theorem Sl.take {w : World} {a : Option Addr} {cap : Nat} {zs : List Nat} (h : Sl w (.slice a zs.length cap) zs) (m : Nat) (hm : m ≤ zs.length) : Sl w (.slice a m cap) (zs.take m) := by
  obtain ⟨f, l, a', cap', e, h⟩ := h
  simp only [Value.slice.injEq] at e
  obtain ⟨rfl, _, rfl⟩ := e
  have hl : (zs.take m).length = m := by rw [List.length_take]; omega
  refine ⟨?_, by rw [hl]; omega, a, cap, by rw [hl], ?_⟩
  · intro i
    by_cases hi : i < m
    · have : (zs.take m).getD i 0 = zs.getD i 0 := by simp [hi]
      rw [this]; exact f i
    · have : (zs.take m).getD i 0 = 0 := by
        rw [List.getD_eq_getElem?_getD, List.getElem?_eq_none (by omega)]; rfl
      rw [this]; omega
  · rcases h with h | ⟨b, off, e1, e2, e3⟩
    · left; rw [h]; simp
    · refine Or.inr ⟨b, off, e1, e2, fun i hi => ?_⟩
      rw [hl] at hi
      rw [e3 i (by omega)]
      have : (zs.take m).getD i 0 = zs.getD i 0 := by simp [hi]
      rw [this]

set_option maxHeartbeats 800000 in
theorem few_any (a : Option Addr) (cap : Nat) (zs : List Nat) (w : World) (hu : Sl w (.slice a zs.length cap) zs) (hc : zs.length ≤ cap) (hz : a = none → cap = 0) :
    Calls Tryd.prog 10 #[.slice a zs.length cap] w fun e w' => ∃ v', e = .returned v' ∧ w'.ownsRow w.heap.size 43 1 v' (zs.take 70).length (vals (zs.take 70)) ∧ Below w.heap.size w w' ∧ Sl w' v' (zs.take 70) := by
  have lx := hu.2.1
  by_cases h : zs.length ≤ 70
  · have h' : (zs.length : Int) ≤ 70 := by omega
    have et : zs.take 70 = zs := List.take_of_length_le (by omega)
    have C := fun w' (hw : Sl w' (.slice a zs.length cap) zs) => refCopy_any (.slice a zs.length cap) zs w' hw (fun len c e => by simp only [Value.slice.injEq] at e; obtain ⟨e1, _, e2⟩ := e; rw [← e2]; exact hz e1)
    have fl := hu.1
    rw [et]
    clear hz et
    go_enter Tryd.func10, Tryd.ntmps10
    go_wp2_with (go_at_call 11; refine (C _ hu).mono ?_; rintro e w1 ⟨v', rfl, hown, hb⟩)
    go_ret
    exact ⟨_, rfl, hown, hb, Sl.ofRow hown fl lx⟩
  · have h' : (70 : Int) < (zs.length : Int) := by omega
    have ht := hu.take 70 (by omega)
    have hl : (zs.take 70).length = 70 := by rw [List.length_take]; omega
    have C := fun w' (hw : Sl w' (.slice a 70 cap) (zs.take 70)) => refCopy_any (.slice a 70 cap) (zs.take 70) w' hw (fun len c e => by simp only [Value.slice.injEq] at e; obtain ⟨e1, _, e2⟩ := e; rw [← e2]; exact hz e1)
    have hcap : (70 : Int) ≤ (cap : Int) := by omega
    have fl := ht.1
    have ll := ht.2.1
    clear hz hl
    go_enter Tryd.func10, Tryd.ntmps10
    go_wp2_with (go_at_call 11; refine (C _ ht).mono ?_; rintro e w1 ⟨v', rfl, hown, hb⟩)
    go_ret
    exact ⟨_, rfl, hown, hb, Sl.ofRow hown fl ll⟩
end Go.Proofs.YtcfegclnkheebaaDoor
