/-
  Variables of six cells in memory, as one equation of their block; a first unit, with its place.
-/
import Derived.Test.YtkljakeccfnakaaGreatDoorHL
import Derived.Test.YtkljakeccfnakaaGreatDoorHH
import Derived.Test.YtkljakeccfnakaaGreatDoorKA
namespace Go.Proofs.YtkljakeccfnakaaGreatDoor
open Go.RowKit

/-- The variable of an expression lies at the block b with these cells. -/
def Box (w : World) (b : Nat) (x0 x1 x2 x3 x4 x5 : Value) : Prop := w.heap[b]? = some (.cells #[x0, x1, x2, x3, x4, x5] 49 (0, 0))
section
variable {w w' : World} {b R n : Nat} {x0 x1 x2 x3 x4 x5 : Value}
theorem Box.lt (h : Box w b x0 x1 x2 x3 x4 x5) : b < w.heap.size := lt_of_block h
theorem Box.cells (h : Box w b x0 x1 x2 x3 x4 x5) : w.cell? ⟨b, 0, none⟩ = some x0 ∧ w.cell? ⟨b, 1, none⟩ = some x1 ∧ w.cell? ⟨b, 2, none⟩ = some x2 ∧ w.cell? ⟨b, 3, none⟩ = some x3 ∧ w.cell? ⟨b, 4, none⟩ = some x4 ∧ w.cell? ⟨b, 5, none⟩ = some x5 := by
  unfold Box at h
  refine ⟨?_, ?_, ?_, ?_, ?_, ?_⟩ <;> simp [World.cell?, h]
theorem Box.free (h : Box w b x0 x1 x2 x3 x4 x5) (o : Nat) : w.frozen? ⟨b, o, none⟩ = false := by
  unfold Box at h
  simp [World.frozen?, h]
theorem Box.frees (h : Box w b x0 x1 x2 x3 x4 x5) : w.frozen? ⟨b, 0, none⟩ = false ∧ w.frozen? ⟨b, 1, none⟩ = false ∧ w.frozen? ⟨b, 2, none⟩ = false ∧ w.frozen? ⟨b, 3, none⟩ = false ∧ w.frozen? ⟨b, 4, none⟩ = false ∧ w.frozen? ⟨b, 5, none⟩ = false := ⟨h.free 0, h.free 1, h.free 2, h.free 3, h.free 4, h.free 5⟩
theorem Box.but (hb : But R w w') (hne : b ≠ R) (h : Box w b x0 x1 x2 x3 x4 x5) : Box w' b x0 x1 x2 x3 x4 x5 := (hb.block b h.lt hne).trans h
theorem Box.alloc (o : Obj) (h : Box w b x0 x1 x2 x3 x4 x5) : Box (w.alloc o) b x0 x1 x2 x3 x4 x5 := (Below.heap_alloc _ _ _ h.lt).trans h
theorem Box.drew (h : Box w b x0 x1 x2 x3 x4 x5) : Box w.drew b x0 x1 x2 x3 x4 x5 := h
theorem Box.other {p : Addr} {u : Value} (hp : b ≠ p.block) (h : Box w b x0 x1 x2 x3 x4 x5) : Box (w.setCell p u) b x0 x1 x2 x3 x4 x5 := (Below.heap_setCell _ _ _ _ hp).trans h
theorem Box.new (hn : b = w.heap.size) : Box (w.alloc (.cells #[x0, x1, x2, x3, x4, x5] 49 (0, 0))) b x0 x1 x2 x3 x4 x5 := by
  subst hn; exact heap_alloc_new _ _
theorem Box.set {y0 y1 y2 y3 y4 y5 : Value} (h : Box w b x0 x1 x2 x3 x4 x5) : Box ((((((w.setCell ⟨b, 0, none⟩ y0).setCell ⟨b, 1, none⟩ y1).setCell ⟨b, 2, none⟩ y2).setCell ⟨b, 3, none⟩ y3).setCell ⟨b, 4, none⟩ y4).setCell ⟨b, 5, none⟩ y5) b y0 y1 y2 y3 y4 y5 := by
  unfold Box at *
  rw [heap_setCell_same _ b 5 _ 49 _ (heap_setCell_same _ b 4 _ 49 _ (heap_setCell_same _ b 3 _ 49 _ (heap_setCell_same _ b 2 _ 49 _ (heap_setCell_same _ b 1 _ 49 _ (heap_setCell_same w b 0 _ 49 _ h)))))]
  rfl
end

/-- A first unit, with the part's own answer. -/
def Begins (Z R en f F : Nat) : Prop :=
  ∀ (ts : List Tok) (w : World), St Z R en w ts → P en f .unit ts ≠ .out →
    Calls Tryz.prog F #[.pointer (some ⟨R, 0, none⟩)] w fun e w' => But R w w' ∧ ((∃ v x r, e = .returned (.tuple #[.int .i64 (place en ts : Nat), v]) ∧ ExV w.heap.size w' v x ∧ St Z R en w' r ∧ P en f .unit ts = .ok x r) ∨ (∃ c p : Nat, e = .panicked [{ v := .iface 73 (.agg #[.int .i64 c, .int .i64 p]), recovered := false }] ∧ Gone en (P en f .unit ts) c p))

theorem begin_steps {Z R en f : Nat} (KU : Reads Z R en f 169 .unit) : Begins Z R en f 150 := by
  intro ts w hw hO
  have lz : Z ≤ w.heap.size := hw.size
  have lr : R < Z := hw.rz
  have HO := Hid.intro hO
  have HW := Hid.intro hw
  have HKU := Hid.intro KU
  clear KU hw hO
  have F3 := fld3
  go_enter Tryz.func150, Tryz.ntmps150
  go_wp2_with fail
  refine (peek_any Z R en ts _ (HW.out.below ((Below.refl _ _).alloc lz _))).mono ?_
  rintro e w1 ⟨rfl, hp1⟩
  unfold tkV
  have hb1 := But.of (R := R) hp1
  have l1 := hb1.size
  (try simp at l1)
  have HS1 : Hid (St Z R en w1 ts) := Hid.intro (St.to (HW.out.below ((Below.refl _ _).alloc lz _)) hp1)
  have HB1 := Hid.intro (Box.but hb1 (by omega) (Box.new (w := w) rfl))
  clear hp1
  go_wp2_with fail
  refine (HKU.out.more HS1.out HO.out).mono ?_
  rintro e w2 ⟨hb2, ⟨v2, x2, r2, rfl, hx2, hs, hG⟩ | ⟨c, p, rfl, hG⟩⟩
  rotate_left
  · exact ⟨rfl, ((But.refl R w).alloc _).trans (hb1.trans hb2), Or.inr ⟨c, p, rfl, hG⟩⟩
  obtain ⟨nn2, tx2, ox2, a2, ln2, cp2, rfl, htx2⟩ := hx2.form2
  have HX2 := Hid.intro hx2
  have HS2 := Hid.intro hs
  have HG2 := Hid.intro hG
  have HB2 := Hid.intro (HB1.out.but hb2 (by omega))
  have l2 := hb2.size
  clear hx2 hs hG htx2
  obtain ⟨c0, c1, c2, c3, c4, c5⟩ := HB2.out.cells
  obtain ⟨f0, f1, f2, f3, f4, f5⟩ := HB2.out.frees
  rw [next_pos]
  go_wp2
  refine bodyPost_ret (v := .tuple #[.int .i64 (place en ts : Nat), .agg #[.int .i64 (x2.kind : Int), .string tx2, .string ox2, .int .i64 nn2, .int .i64 (x2.pl : Int), .slice a2 ln2 cp2]]) (by simp [results, Tryz.results150, go_sem, *]) rfl ⟨(by repeat (first | with_reducible exact But.refl _ _ | with_reducible refine But.alloc ?_ _ | with_reducible refine But.drew ?_ | with_reducible refine But.setCell ?_ (by first | (left; dsimp only; omega) | (left; simp; omega)) _ | with_reducible refine But.trans ?_ (by assumption) | with_reducible refine But.below ?_ (by assumption))), Or.inl ⟨_, _, _, rfl, ((HX2.out.keep (by repeat (first | with_reducible exact Kept.refl _ _ | with_reducible refine Kept.alloc ?_ _ | with_reducible refine Kept.drew ?_ | with_reducible refine Kept.setCell ?_ (by first | (left; dsimp only; omega) | (right; dsimp only; omega) | (left; simp; omega) | (right; simp; omega)) _ | with_reducible refine Kept.but ?_ (by assumption) (by first | omega | (simp; omega)) | with_reducible refine Kept.below ?_ (by assumption)))).low (by first | omega | (simp; done) | (simp; omega))), (HS2.out.below (by repeat (first | with_reducible exact Below.refl _ _ | with_reducible refine Below.alloc ?_ (by first | omega | (simp; done) | (simp; omega)) _ | with_reducible refine Below.drew ?_ | with_reducible refine Below.setCell ?_ (by first | (dsimp only; omega) | (simp; omega)) _ ))), HG2.out⟩⟩
end Go.Proofs.YtkljakeccfnakaaGreatDoor
