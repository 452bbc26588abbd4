/-
  Rows in memory, and the walks of Has and Put of the document's own answers.
-/
import Derived.Test.YtcfegclnkheebaaDoorA
namespace Go.Proofs.YtcfegclnkheebaaDoor
open Go.RowKit

/-- Block g holds just the rows zs, and they may be written. -/
def OwnU (w : World) (g : Nat) (zs : List Nat) : Prop := w.heap[g]? = some (.cells (zs.map fun (z : Nat) => Value.int .u64 (z : Int)).toArray 43 (0, 0))
theorem OwnU.lt {w : World} {g : Nat} {zs : List Nat} (h : OwnU w g zs) : g < w.heap.size := lt_of_block h
theorem OwnU.cell {w : World} {g : Nat} {zs : List Nat} (h : OwnU w g zs) {i : Nat} (hi : i < zs.length) : w.cell? ⟨g, i, none⟩ = some (.int .u64 ((zs.getD i 0 : Nat) : Int)) := by
  unfold OwnU at h
  simp [World.cell?, h, hi]
theorem OwnU.free {w : World} {g : Nat} {zs : List Nat} (h : OwnU w g zs) (i : Nat) : w.frozen? ⟨g, i, none⟩ = false := by
  unfold OwnU at h
  simp [World.frozen?, h]
theorem OwnU.store {w : World} {g : Nat} {zs : List Nat} (h : OwnU w g zs) (i z : Nat) : OwnU (w.setCell ⟨g, i, none⟩ (.int .u64 (z : Int))) g (zs.set i z) := by
  unfold OwnU at *
  rw [heap_setCell_same w g i _ 43 _ h]
  simp
theorem OwnU.below {w w' : World} {g B : Nat} {zs : List Nat} (h : OwnU w g zs) (hb : Below B w w') (hg : g < B) : OwnU w' g zs := (hb.block g hg).trans h
theorem OwnU.other {w : World} {g : Nat} {zs : List Nat} (h : OwnU w g zs) {a : Addr} (u : Value) (hg : g ≠ a.block) : OwnU (w.setCell a u) g zs := (heap_setCell_other w a g u hg).trans h

/-- The value v is a slice of the rows zs in the world w. -/
def Sl (w : World) (v : Value) (zs : List Nat) : Prop :=
  Fits zs ∧ zs.length * 8 ≤ 140737488351232 ∧ ∃ a cap, v = .slice a zs.length cap ∧ (zs = [] ∨ ∃ b off, a = some ⟨b, off, none⟩ ∧ b < w.heap.size ∧ ∀ i, i < zs.length → w.cell? ⟨b, off + i, none⟩ = some (.int .u64 ((zs.getD i 0 : Nat) : Int)))
theorem Sl.below {w w' : World} {v : Value} {zs : List Nat} (h : Sl w v zs) (hb : Below w.heap.size w w') : Sl w' v zs := by
  obtain ⟨f, l, a, cap, e, h⟩ := h
  refine ⟨f, l, a, cap, e, ?_⟩
  rcases h with h | ⟨b, off, e1, e2, e3⟩
  · exact Or.inl h
  · exact Or.inr ⟨b, off, e1, Nat.lt_of_lt_of_le e2 hb.size, fun i hi => (hb.cell (p := ⟨b, off + i, none⟩) e2).trans (e3 i hi)⟩
theorem Sl.own {w : World} {g : Nat} {zs : List Nat} (h : OwnU w g zs) (f : Fits zs) (l : zs.length * 8 ≤ 140737488351232) (cap : Nat) : Sl w (.slice (some ⟨g, 0, none⟩) zs.length cap) zs :=
  ⟨f, l, _, cap, rfl, Or.inr ⟨g, 0, rfl, h.lt, fun i hi => by rw [Nat.zero_add]; exact h.cell hi⟩⟩

theorem refHas_any (v : Value) (zs : List Nat) (i k : Int) (w : World) (h : Sl w v zs) :
    Calls Tryd.prog 20 #[v, .int .i64 i, .int .i64 k] w fun e w' => e = .returned (.bool (hasB zs i k)) ∧ w' = w := by
  obtain ⟨f, l, a, cap, rfl, h⟩ := h
  by_cases ho : i < 0 ∨ ((min zs.length 64 : Nat) : Int) ≤ i ∨ k < 0 ∨ ((min zs.length 64 : Nat) : Int) ≤ k
  · rw [hasB_out ho]; exact has_out a zs.length cap i k _ w rfl ho
  · obtain ⟨i, rfl⟩ := Int.eq_ofNat_of_zero_le (show 0 ≤ i by omega)
    obtain ⟨k, rfl⟩ := Int.eq_ofNat_of_zero_le (show 0 ≤ k by omega)
    have h1 : i < min zs.length 64 := by omega
    have h2 : k < min zs.length 64 := by omega
    rw [hasB_in h1 h2]
    rcases h with h | ⟨b, off, rfl, e2, e3⟩
    · rw [h] at h1; simp at h1
    · exact has_in b off zs.length cap i k _ _ w rfl h1 h2 (f i) (e3 i (by omega))

set_option maxHeartbeats 400000 in
theorem refPut_any (g : Nat) (zs : List Nat) (cap i k : Nat) (w : World) (h : OwnU w g zs) (f : Fits zs) (hn : zs.length ≤ 64) (hi : i < zs.length) (hk : k < zs.length) :
    Calls Tryd.prog 36 #[.slice (some ⟨g, 0, none⟩) zs.length cap, .int .i64 i, .int .i64 k] w fun e w' => e = .returned (.tuple #[]) ∧ OwnU w' g (putL zs i k) ∧ w.grownBy w' (some g) := by
  have hs := Sl.own h f (by omega) cap
  have hb := hasB_in (zs := zs) (i := i) (k := k) (by omega) (by omega)
  have hc := h.cell hi
  have hf := h.free i
  have e2 : (i : Int) < (zs.length : Int) := by omega
  have p1 := pow_in (show k < 64 by omega)
  have fz := f i
  have st := fun y => h.store i y
  have pt : putL zs i k = if (zs.getD i 0).testBit k = true then zs else zs.set i (zs.getD i 0 + 2 ^ k) := rfl
  obtain ⟨z, hz⟩ : ∃ z, zs.getD i 0 = z := ⟨_, rfl⟩
  rw [hz] at hb hc fz pt
  clear hz f
  cases hx : z.testBit k
  · rw [hx] at hb pt
    have a1 := add_lt hx fz (show k < 64 by omega)
    have a2 : IntKind.u64.wrap ((z : Int) + (2 : Int) ^ k) = ((z + 2 ^ k : Nat) : Int) := by
      rw [← pow_cast, ← Int.natCast_add]; exact nat_u64 a1
    have S : Hid (OwnU (w.setCell ⟨g, i, none⟩ (.int .u64 (IntKind.u64.wrap ((z : Int) + (2 : Int) ^ k)))) g (putL zs i k)) := by
      rw [a2, pt, if_neg (by simp)]; exact st _
    clear st hx a1 pt a2 fz
    go_enter Tryd.func36, Tryd.ntmps36
    go_wp2_with (go_at_call 20; refine (refHas_any _ _ _ _ _ hs).mono ?_; rintro e w' ⟨rfl, rfl⟩)
    go_end0
    exact ⟨rfl, S.out, ⟨rfl, rfl, rfl, by simp, fun j _ hj => heap_setCell_other _ _ _ _ (fun e => hj (by simp [e]))⟩⟩
  · rw [hx] at hb pt
    have S : Hid (OwnU w g (putL zs i k)) := by
      rw [pt, if_pos rfl]; exact h
    clear hx pt st fz
    go_enter Tryd.func36, Tryd.ntmps36
    go_wp2_with (go_at_call 20; refine (refHas_any _ _ _ _ _ hs).mono ?_; rintro e w' ⟨rfl, rfl⟩)
    go_end0
    exact ⟨rfl, S.out, ⟨rfl, rfl, rfl, Nat.le_refl _, fun _ _ _ => rfl⟩⟩
end Go.Proofs.YtcfegclnkheebaaDoor
