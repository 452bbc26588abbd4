/-
  From data to programs in memory: what the rows hand over, opened.
  From data to programs in memory: declarations, whole programs; what the listed variables give.
  A world in which the listed variables lie, for the rows' witness.
-/
import Derived.Test.YtkljakeccfnakaaGreatDoorUE
import Derived.Test.YtkljakeccfnakaaGreatDoorRows
import Derived.ChangeArms
import Derived.Lib.SmallJoins
import Derived.DataReads
import Derived.LaidMore
import Derived.Stop.Joined
import Derived.Stop.LaidErr
import Derived.MakeChecks
import Derived.Lib.LaidTab
import Derived.Deep.DeepHandedRow
import Derived.Deep.DeepWitnessRowRef
import Derived.ProofKit
import Derived.OpenShut
import Derived.JoinedCond
namespace Go.Proofs.YtkljakeccfnakaaGreatDoor
open Go.ChangeShapes Go.WideShapes Go.ChangeAt Go.RowKit Go.WideMaps Go.WideElems Go.Joins

theorem cof3 : Tryz.prog.cellsOf 3 = 1 := by kernel_rfl
theorem cof9 : Tryz.prog.cellsOf 9 = 1 := by kernel_rfl
theorem cof23 : Tryz.prog.cellsOf 23 = 1 := by kernel_rfl
theorem cof25 : Tryz.prog.cellsOf 25 = 2 := by kernel_rfl
theorem cof42 : Tryz.prog.cellsOf 46 = 4 := by kernel_rfl
theorem cof45 : Tryz.prog.cellsOf 49 = 6 := by kernel_rfl
theorem bulk_pos {H : Type} (d : DataW H) : 1 ≤ Rows.uptoBulk d := by
  cases d with
  | lit l => cases l <;> simp [Rows.uptoBulk]
  | nil => simp [Rows.uptoBulk]
  | ptr d => simp [Rows.uptoBulk]
  | slice elems spare => simp [Rows.uptoBulk]
  | agg parts => simp [Rows.uptoBulk]
  | iface t d => simp [Rows.uptoBulk]
  | map entries => simp [Rows.uptoBulk]
  | held h => simp [Rows.uptoBulk]
theorem bulk_len {H : Type} (l : List (DataW H)) : l.length ≤ Rows.uptoBulkAll l := by
  induction l with
  | nil => simp [Rows.uptoBulkAll]
  | cons x r ih => have := bulk_pos x; simp only [Rows.uptoBulkAll, List.length_cons]; omega
section
variable {H : Type} {enc : TypeId × Value → H} {W : World}
theorem list6 {α : Type} {l : List α} (h : l.length = 6) : ∃ a b c d e f, l = [a, b, c, d, e, f] := by
  match l, h with
  | [a, b, c, d, e, f], _ => exact ⟨a, b, c, d, e, f, rfl⟩
theorem list4 {α : Type} {l : List α} (h : l.length = 4) : ∃ a b c d, l = [a, b, c, d] := by
  match l, h with
  | [a, b, c, d], _ => exact ⟨a, b, c, d, rfl⟩
/-- What the cells of an expression are. -/
def OpX (W : World) (cs : List Value) (B : Nat) : Prop := ∃ X a cap, cs = [.int .i64 X.kind, .string ⟨X.text.toArray⟩, .string ⟨X.other.toArray⟩, .int .i64 X.n, .int .i64 X.pl, .slice a X.kids.length cap] ∧ PxV W.heap.size W (pv X a cap) X ∧ szX X ≤ B
theorem cell_lt {a : Addr} {v : Value} (h : W.cell? a = some v) : a.block < W.heap.size := World.block_lt_of_cell? W a h
/-- The elements of a row of expressions. -/
theorem open_row {n : Nat} (ih : ∀ cs d p, DataW.trod enc Tryz.prog W 0 (fun _ => true) true n 49 cs = some (d, p) → Rows.uptoBulk d ≤ 1048576 → OpX W cs (Rows.uptoBulk d)) (b off : Nat) :
    ∀ (elems : List (DataW H × List MemPlace)) (st : Nat), (∀ i, i < elems.length → (W.cells? 0 (Addr.add ⟨b, off, none⟩ ((st + i) * 6)) 6).bind (DataW.trod enc Tryz.prog W 0 (fun _ => true) true n 49) = elems[i]?) → Rows.uptoBulkAll (elems.map (·.1)) ≤ 1048576 →
      ∃ l : List Px, l.length = elems.length ∧ szXL l ≤ Rows.uptoBulkAll (elems.map (·.1)) ∧ ∀ j y, l[j]? = some y → ∃ a cp, KidC W b off (st + j) y a cp ∧ PxV W.heap.size W (pv y a cp) y := by
  intro elems
  induction elems with
  | nil => intro st _ _; exact ⟨[], rfl, by simp [szXL], fun j y h => by simp at h⟩
  | cons x r ihr =>
    intro st h hb
    simp only [List.map_cons, Rows.uptoBulkAll] at hb
    have h0 := h 0 (by simp)
    rw [List.getElem?_cons_zero] at h0
    obtain ⟨cs, hc, ht⟩ := Option.bind_eq_some_iff.1 h0
    obtain ⟨X, a, cap, rfl, hpx, hsz⟩ := ih cs x.1 x.2 ht (by omega)
    obtain ⟨l, hl, hs, hk⟩ := ihr (st + 1) (fun i hi => by
      have := h (i + 1) (by simp; omega)
      rw [List.getElem?_cons_succ] at this
      rw [show st + 1 + i = st + (i + 1) by omega]
      exact this) (by omega)
    obtain ⟨_, _, hcell⟩ := World.cells?_some hc
    refine ⟨X :: l, by simp [hl], by simp only [szXL, List.map_cons, Rows.uptoBulkAll]; omega, fun j y hj => ?_⟩
    cases j with
    | zero =>
      simp only [List.getElem?_cons_zero, Option.some.injEq] at hj
      subst hj
      refine ⟨a, cap, ?_, hpx⟩
      have q := hcell
      simp only [Addr.add_lit] at q
      exact ⟨q 0 (by omega), q 1 (by omega), q 2 (by omega), q 3 (by omega), q 4 (by omega), q 5 (by omega)⟩
    | succ j =>
      simp only [List.getElem?_cons_succ] at hj
      obtain ⟨a', cp', h1, h2⟩ := hk j y hj
      exact ⟨a', cp', by rw [show st + (j + 1) = st + 1 + j by omega]; exact h1, h2⟩
/-- A slice of expressions, opened. -/
theorem open_xs {n : Nat} (ih : ∀ m cs d p, m < n → DataW.trod enc Tryz.prog W 0 (fun _ => true) true m 49 cs = some (d, p) → Rows.uptoBulk d ≤ 1048576 → OpX W cs (Rows.uptoBulk d)) {c : Value} {d : DataW H} {p : List MemPlace}
    (h : DataW.trod enc Tryz.prog W 0 (fun _ => true) true n 23 [c] = some (d, p)) (hb : Rows.uptoBulk d ≤ 1048576) : ∃ l a cap, c = .slice a l.length cap ∧ XSl W.heap.size W a cap l ∧ szXL l + 1 ≤ Rows.uptoBulk d := by
  rcases DataW.trod_slice Tryz.underlying23 h with ⟨hc, hx⟩ | ⟨a, len, cap, elems, rest, m, rfl, hc, hx, _, hl, _, hlen, hel, _, _⟩
  · simp only [List.cons.injEq, and_true] at hc
    simp only [Prod.mk.injEq] at hx
    obtain ⟨rfl, _⟩ := hx
    exact ⟨[], none, 0, hc, ⟨⟨by simp, by simp⟩, Or.inl rfl⟩, by simp [szXL, Rows.uptoBulk]⟩
  · simp only [List.cons.injEq, and_true] at hc
    simp only [Prod.mk.injEq] at hx
    obtain ⟨rfl, _⟩ := hx
    simp only [Rows.uptoBulk] at hb ⊢
    obtain ⟨b, off, spot⟩ := a
    have hle := bulk_len (elems.map (·.1))
    rw [List.length_map, hlen] at hle
    by_cases h0 : len = 0
    · have : elems = [] := List.eq_nil_of_length_eq_zero (by omega)
      subst h0
      exact ⟨[], _, cap, hc, ⟨⟨by simp, by simp⟩, Or.inl rfl⟩, by simp [szXL]⟩
    · have h1 := hel 0 (by omega)
      rw [List.getElem?_eq_getElem (by omega)] at h1
      obtain ⟨cs, hcs, _⟩ := Option.bind_eq_some_iff.1 h1
      have hc0 := (World.cells?_some hcs).2.2 0 (by rw [cof45]; omega)
      have hlen6 := (World.cells?_some hcs).2.1
      rw [cof45] at hlen6
      rw [List.getElem?_eq_getElem (by omega)] at hc0
      have hs := World.cell?_spot hc0
      have hspot : spot = none := by simpa [Addr.add] using hs
      subst hspot
      have hblk := cell_lt hc0
      rw [cof45] at hel
      obtain ⟨l, hll, hss, hk⟩ := open_row (fun cs d p ht hb => ih m cs d p (Nat.lt_succ_self m) ht hb) b off elems 0 (fun i hi => by rw [Nat.zero_add]; exact hel i (by omega)) (by omega)
      have hbl : b < W.heap.size := by simpa [Addr.add] using hblk
      refine ⟨l, some ⟨b, off, none⟩, cap, by rw [hll, hlen]; exact hc, ⟨⟨by omega, by omega⟩, Or.inr ⟨b, off, rfl, hbl, fun j y hj => ?_⟩⟩, by omega⟩
      have := hk j y hj
      rw [Nat.zero_add] at this
      exact this
/-- An expression, opened. -/
theorem open_x : ∀ (n : Nat) (cs : List Value) (d : DataW H) (p : List MemPlace), DataW.trod enc Tryz.prog W 0 (fun _ => true) true n 49 cs = some (d, p) → Rows.uptoBulk d ≤ 1048576 → OpX W cs (Rows.uptoBulk d) := by
  intro n
  induction n using Nat.strongRecOn with
  | _ n IH =>
    intro cs d p h hb
    obtain ⟨xs, m, rfl, hx, hlen, hxs, hf⟩ := DataW.trod_struct Tryz.underlying49 h
    rw [cof45] at hlen
    obtain ⟨c0, c1, c2, c3, c4, c5, rfl⟩ := list6 hlen
    obtain ⟨x0, x1, x2, x3, x4, x5, rfl⟩ := list6 hxs
    simp only [Prod.mk.injEq] at hx
    obtain ⟨rfl, _⟩ := hx
    have f0 : DataW.trod enc Tryz.prog W 0 (fun _ => true) true m 3 [c0] = some x0 := by
      have : DataW.trod enc Tryz.prog W 0 (fun _ => true) true m 3 ((List.drop 0 [c0, c1, c2, c3, c4, c5]).take (Tryz.prog.cellsOf 3)) = [x0, x1, x2, x3, x4, x5][0]? := hf 0 _ rfl
      rw [cof3] at this
      exact this
    have f1 : DataW.trod enc Tryz.prog W 0 (fun _ => true) true m 9 [c1] = some x1 := by
      have : DataW.trod enc Tryz.prog W 0 (fun _ => true) true m 9 ((List.drop 1 [c0, c1, c2, c3, c4, c5]).take (Tryz.prog.cellsOf 9)) = [x0, x1, x2, x3, x4, x5][1]? := hf 1 _ rfl
      rw [cof9] at this
      exact this
    have f2 : DataW.trod enc Tryz.prog W 0 (fun _ => true) true m 9 [c2] = some x2 := by
      have : DataW.trod enc Tryz.prog W 0 (fun _ => true) true m 9 ((List.drop 2 [c0, c1, c2, c3, c4, c5]).take (Tryz.prog.cellsOf 9)) = [x0, x1, x2, x3, x4, x5][2]? := hf 2 _ rfl
      rw [cof9] at this
      exact this
    have f3 : DataW.trod enc Tryz.prog W 0 (fun _ => true) true m 3 [c3] = some x3 := by
      have : DataW.trod enc Tryz.prog W 0 (fun _ => true) true m 3 ((List.drop 3 [c0, c1, c2, c3, c4, c5]).take (Tryz.prog.cellsOf 3)) = [x0, x1, x2, x3, x4, x5][3]? := hf 3 _ rfl
      rw [cof3] at this
      exact this
    have f4 : DataW.trod enc Tryz.prog W 0 (fun _ => true) true m 3 [c4] = some x4 := by
      have : DataW.trod enc Tryz.prog W 0 (fun _ => true) true m 3 ((List.drop 4 [c0, c1, c2, c3, c4, c5]).take (Tryz.prog.cellsOf 3)) = [x0, x1, x2, x3, x4, x5][4]? := hf 4 _ rfl
      rw [cof3] at this
      exact this
    have f5 : DataW.trod enc Tryz.prog W 0 (fun _ => true) true m 23 [c5] = some x5 := by
      have : DataW.trod enc Tryz.prog W 0 (fun _ => true) true m 23 ((List.drop 5 [c0, c1, c2, c3, c4, c5]).take (Tryz.prog.cellsOf 23)) = [x0, x1, x2, x3, x4, x5][5]? := hf 5 _ rfl
      rw [cof23] at this
      exact this
    obtain ⟨k, e0, rfl, _⟩ := DataW.trod_int Tryz.underlying3 f0
    obtain ⟨t, e1, rfl, _⟩ := DataW.trod_string Tryz.underlying9 f1
    obtain ⟨o, e2, rfl, _⟩ := DataW.trod_string Tryz.underlying9 f2
    obtain ⟨nn, e3, rfl, _⟩ := DataW.trod_int Tryz.underlying3 f3
    obtain ⟨pp, e4, rfl, _⟩ := DataW.trod_int Tryz.underlying3 f4
    simp only [List.cons.injEq, and_true] at e0 e1 e2 e3 e4
    subst e0; subst e1; subst e2; subst e3; subst e4
    simp only [List.map_cons, List.map_nil, Rows.uptoBulk, Rows.uptoBulkAll] at hb ⊢
    obtain ⟨d5, p5⟩ := x5
    dsimp only at hb ⊢
    obtain ⟨l, a, cap, rfl, hxl, hsz⟩ := open_xs (fun m' cs d p hm ht hb => IH m' (by omega) cs d p ht hb) f5 (by omega)
    refine ⟨.mk k t.data.toList o.data.toList nn pp l, a, cap, rfl, ?_, by simp only [szX]; omega⟩
    rcases hxl.row with h0 | ⟨b, off, rfl, hR⟩
    · subst h0
      exact PxV.mk k t.data.toList o.data.toList nn pp a cap [] (fun _ => undef) ⟨by omega, by omega⟩ hxl.cap (Or.inl rfl) (fun j x h => by simp at h)
    · exact PxV.of_row (x := .mk k t.data.toList o.data.toList nn pp l) ⟨by show t.data.toList.length ≤ _; omega, by show o.data.toList.length ≤ _; omega⟩ hxl.cap hR
end
end Go.Proofs.YtkljakeccfnakaaGreatDoor

namespace Go.Proofs.YtkljakeccfnakaaGreatDoor
open Go.ChangeShapes Go.WideShapes Go.ChangeAt Go.RowKit Go.WideMaps Go.WideElems Go.Joins
section
variable {H : Type} {enc : TypeId × Value → H} {W : World}
/-- A declaration, opened. -/
theorem open_d {n : Nat} {cs : List Value} {d : DataW H} {p : List MemPlace} (h : DataW.trod enc Tryz.prog W 0 (fun _ => true) true n 46 cs = some (d, p)) (hb : Rows.uptoBulk d ≤ 1048576) :
    ∃ D : Dl, cs = [.int .i64 D.kind, .string ⟨D.name.toArray⟩, .int .i64 D.n, .int .i64 D.pl] ∧ D.name.length ≤ 1048576 := by
  obtain ⟨xs, m, rfl, hx, hlen, hxs, hf⟩ := DataW.trod_struct Tryz.underlying46 h
  rw [cof42] at hlen
  obtain ⟨c0, c1, c2, c3, rfl⟩ := list4 hlen
  obtain ⟨x0, x1, x2, x3, rfl⟩ := list4 hxs
  simp only [Prod.mk.injEq] at hx
  obtain ⟨rfl, _⟩ := hx
  have f0 : DataW.trod enc Tryz.prog W 0 (fun _ => true) true m 3 [c0] = some x0 := by
    have : DataW.trod enc Tryz.prog W 0 (fun _ => true) true m 3 ((List.drop 0 [c0, c1, c2, c3]).take (Tryz.prog.cellsOf 3)) = [x0, x1, x2, x3][0]? := hf 0 _ rfl
    rw [cof3] at this; exact this
  have f1 : DataW.trod enc Tryz.prog W 0 (fun _ => true) true m 9 [c1] = some x1 := by
    have : DataW.trod enc Tryz.prog W 0 (fun _ => true) true m 9 ((List.drop 1 [c0, c1, c2, c3]).take (Tryz.prog.cellsOf 9)) = [x0, x1, x2, x3][1]? := hf 1 _ rfl
    rw [cof9] at this; exact this
  have f2 : DataW.trod enc Tryz.prog W 0 (fun _ => true) true m 3 [c2] = some x2 := by
    have : DataW.trod enc Tryz.prog W 0 (fun _ => true) true m 3 ((List.drop 2 [c0, c1, c2, c3]).take (Tryz.prog.cellsOf 3)) = [x0, x1, x2, x3][2]? := hf 2 _ rfl
    rw [cof3] at this; exact this
  have f3 : DataW.trod enc Tryz.prog W 0 (fun _ => true) true m 3 [c3] = some x3 := by
    have : DataW.trod enc Tryz.prog W 0 (fun _ => true) true m 3 ((List.drop 3 [c0, c1, c2, c3]).take (Tryz.prog.cellsOf 3)) = [x0, x1, x2, x3][3]? := hf 3 _ rfl
    rw [cof3] at this; exact this
  obtain ⟨k, e0, rfl, _⟩ := DataW.trod_int Tryz.underlying3 f0
  obtain ⟨t, e1, rfl, _⟩ := DataW.trod_string Tryz.underlying9 f1
  obtain ⟨nn, e2, rfl, _⟩ := DataW.trod_int Tryz.underlying3 f2
  obtain ⟨pp, e3, rfl, _⟩ := DataW.trod_int Tryz.underlying3 f3
  simp only [List.cons.injEq, and_true] at e0 e1 e2 e3
  subst e0; subst e1; subst e2; subst e3
  simp only [List.map_cons, List.map_nil, Rows.uptoBulk, Rows.uptoBulkAll] at hb
  exact ⟨⟨k, t.data.toList, nn, pp⟩, rfl, by show t.data.toList.length ≤ _; omega⟩
theorem open_drow {n : Nat} (b off : Nat) :
    ∀ (elems : List (DataW H × List MemPlace)) (st : Nat), (∀ i, i < elems.length → (W.cells? 0 (Addr.add ⟨b, off, none⟩ ((st + i) * 4)) 4).bind (DataW.trod enc Tryz.prog W 0 (fun _ => true) true n 46) = elems[i]?) → Rows.uptoBulkAll (elems.map (·.1)) ≤ 1048576 →
      ∃ l : List Dl, l.length = elems.length ∧ (∀ d ∈ l, d.name.length ≤ 1048576) ∧ ∀ j d, l[j]? = some d → W.cell? ⟨b, off + (st + j) * 4, none⟩ = some (.int .i64 d.kind) ∧ W.cell? ⟨b, off + (st + j) * 4 + 1, none⟩ = some (.string ⟨d.name.toArray⟩) ∧ W.cell? ⟨b, off + (st + j) * 4 + 2, none⟩ = some (.int .i64 d.n) ∧ W.cell? ⟨b, off + (st + j) * 4 + 3, none⟩ = some (.int .i64 d.pl) := by
  intro elems
  induction elems with
  | nil => intro st _ _; exact ⟨[], rfl, fun d h => by simp at h, fun j y h => by simp at h⟩
  | cons x r ihr =>
    intro st h hb
    simp only [List.map_cons, Rows.uptoBulkAll] at hb
    have h0 := h 0 (by simp)
    rw [List.getElem?_cons_zero] at h0
    obtain ⟨cs, hc, ht⟩ := Option.bind_eq_some_iff.1 h0
    obtain ⟨D, rfl, hn⟩ := open_d (d := x.1) (p := x.2) ht (by omega)
    obtain ⟨l, hl, hs, hk⟩ := ihr (st + 1) (fun i hi => by
      have := h (i + 1) (by simp; omega)
      rw [List.getElem?_cons_succ] at this
      rw [show st + 1 + i = st + (i + 1) by omega]
      exact this) (by omega)
    have q := (World.cells?_some hc).2.2
    simp only [Addr.add_lit] at q
    refine ⟨D :: l, by simp [hl], fun d hd => ?_, fun j y hj => ?_⟩
    · rcases List.mem_cons.1 hd with rfl | hd
      · exact hn
      · exact hs d hd
    cases j with
    | zero =>
      simp only [List.getElem?_cons_zero, Option.some.injEq] at hj
      subst hj
      exact ⟨q 0 (by omega), q 1 (by omega), q 2 (by omega), q 3 (by omega)⟩
    | succ j =>
      simp only [List.getElem?_cons_succ] at hj
      have := hk j y hj
      rw [show st + 1 + j = st + (j + 1) by omega] at this
      exact this
theorem open_ds {n : Nat} {c : Value} {d : DataW H} {p : List MemPlace} (h : DataW.trod enc Tryz.prog W 0 (fun _ => true) true n 22 [c] = some (d, p)) (hb : Rows.uptoBulk d ≤ 1048576) : ∃ l a cap, c = .slice a l.length cap ∧ DSl W.heap.size W a cap l := by
  rcases DataW.trod_slice Tryz.underlying22 h with ⟨hc, hx⟩ | ⟨a, len, cap, elems, rest, m, rfl, hc, hx, _, hl, _, hlen, hel, _, _⟩
  · simp only [List.cons.injEq, and_true] at hc
    exact ⟨[], none, 0, hc, ⟨⟨by simp, by simp⟩, fun d h => by simp at h, Or.inl rfl⟩⟩
  · simp only [List.cons.injEq, and_true] at hc
    simp only [Prod.mk.injEq] at hx
    obtain ⟨rfl, _⟩ := hx
    simp only [Rows.uptoBulk] at hb
    obtain ⟨b, off, spot⟩ := a
    have hle := bulk_len (elems.map (·.1))
    rw [List.length_map, hlen] at hle
    by_cases h0 : len = 0
    · subst h0
      exact ⟨[], _, cap, hc, ⟨⟨by simp, by simp⟩, fun d h => by simp at h, Or.inl rfl⟩⟩
    · have h1 := hel 0 (by omega)
      rw [List.getElem?_eq_getElem (by omega)] at h1
      obtain ⟨cs, hcs, _⟩ := Option.bind_eq_some_iff.1 h1
      have hc0 := (World.cells?_some hcs).2.2 0 (by rw [cof42]; omega)
      have hlen4 := (World.cells?_some hcs).2.1
      rw [cof42] at hlen4
      rw [List.getElem?_eq_getElem (by omega)] at hc0
      have hs := World.cell?_spot hc0
      have hspot : spot = none := by simpa [Addr.add] using hs
      subst hspot
      have hblk := cell_lt hc0
      rw [cof42] at hel
      obtain ⟨l, hll, hss, hk⟩ := open_drow b off elems 0 (fun i hi => by rw [Nat.zero_add]; exact hel i (by omega)) (by omega)
      have hbl : b < W.heap.size := by simpa [Addr.add] using hblk
      refine ⟨l, some ⟨b, off, none⟩, cap, by rw [hll, hlen]; exact hc, ⟨⟨by omega, by omega⟩, fun d hd => by have := hss d hd; omega, Or.inr ⟨b, off, rfl, hbl, fun j y hj => ?_⟩⟩⟩
      have := hk j y hj
      rw [Nat.zero_add] at this
      exact this
theorem szXL_mem2 {l : List Px} {x : Px} (h : x ∈ l) : szX x ≤ szXL l := by
  obtain ⟨i, hi, e⟩ := List.getElem_of_mem h
  exact szXL_mem l i x (by rw [List.getElem?_eq_getElem hi, e])
set_option maxRecDepth 100000 in
/-- A program, opened. -/
theorem open_prog {v : Value} {d : DataW H} {p : List MemPlace} {base : Nat} (hv : Value.okWide Tryz.prog W .any base 25 v) (h : DataW.Trod enc Tryz.prog W 0 (fun _ => true) true 25 v d p) (hb : Rows.uptoBulk d ≤ 1048576) :
    ∃ ds es a1 c1 a2 c2, v = prv a1 ds.length c1 a2 es.length c2 ∧ DSl W.heap.size W a1 c1 ds ∧ XSl W.heap.size W a2 c2 es ∧ ∀ x ∈ es, szX x ≤ 1000000000000000 := by
  obtain ⟨v0, v1, y0, y1, n, rfl, rfl, _, t0, t1⟩ := open_agg2 Tryz.underlying25 (by kernel_rfl) cof25 hv h
  obtain ⟨d0, p0⟩ := y0
  obtain ⟨d1, p1⟩ := y1
  simp only [Rows.uptoBulk, Rows.uptoBulkAll] at hb
  obtain ⟨ds, a1, c1, rfl, h1⟩ := open_ds t0 (by omega)
  obtain ⟨es, a2, c2, rfl, h2, hs⟩ := open_xs (fun m cs d p _ ht hb => open_x m cs d p ht hb) t1 (by omega)
  exact ⟨ds, es, a1, c1, a2, c2, rfl, h1, h2, fun x hx => Nat.le_trans (szXL_mem2 hx) (Nat.le_trans (m := 1048576) (by omega) (by omega))⟩
end
/-- What the rows lay of the library's variables. -/
def laidT : List (String × DataW Unit) := [("math/bits.deBruijn32tab", Rows.laid_math_bits_deBruijn32tab), ("math/bits.deBruijn64tab", Rows.laid_math_bits_deBruijn64tab), ("internal/strconv.uint64pow10", Rows.laid_internal_strconv_uint64pow10), ("unicode/utf8.acceptRanges", Rows.laid_unicode_utf8_acceptRanges), ("strconv.ErrRange", Rows.laid_strconv_ErrRange), ("strconv.ErrSyntax", Rows.laid_strconv_ErrSyntax), ("unicode/utf8.first", Rows.laid_unicode_utf8_first)]
theorem ok_of_laid {W : World} (h : laidMetH Tryz.prog laidT W) (hsh : W.ShapedOpen Tryz.prog) : Ok W.heap.size W := by
  rw [MakeChecks.laidMetH_plain _ _ _ (by kernel_rfl)] at h
  have hm : ∃ m, W.cell? ⟨1, 0, none⟩ = some (.int .i64 m) := Tryz.laysM146.s1_3 W hsh
  refine ⟨?_, hm, ?_⟩
  · exact Lib.tabIs_of_head (g := 0) (t := 168) (e := 156) (n := 20) (by kernel_rfl) (by kernel_rfl) Tryz.underlying168 Tryz.underlying156 (by kernel_rfl) (by kernel_rfl) h.tail.tail
  · obtain ⟨m, hm⟩ := hm
    have := lt_cell hm
    omega
end Go.Proofs.YtkljakeccfnakaaGreatDoor

namespace Go.Proofs.YtkljakeccfnakaaGreatDoor
open Go.ChangeShapes Go.WideShapes Go.ChangeAt Go.RowKit Go.WideMaps Go.WideElems Go.Joins

theorem Tryz.own : ownKnob Tryz.prog.godebug = none := by kernel_rfl
theorem Tryz.laidOut : laidOutB Tryz.prog = true := by kernel_rfl
/-- The settled world behind the initialisers, the library's great table laid. -/
noncomputable def doorW (os : Os) : World :=
  { World.doorLaid Tryz.prog 2000 os with heap := (World.doorLaid Tryz.prog 2000 os).heap.modify 2 fun
      | .cells _ t fr => .cells (Go.Pinned.utf8FirstZ.map fun (z : Nat) => Value.int .u8 (z : Int)).toArray t fr
      | o => o }
theorem door_met (os : Os) (args : Array Value) : laidMetH Tryz.prog laidT ((doorW os).forCall (fun _ _ => 0) ⟨#[], args, []⟩).memory :=
  laidMetH_of_parts3 (fuel := 8) (laidMet_of_run' 8 (by kernel_rfl) (by kernel_rfl)) (by kernel_rfl) (by kernel_rfl)
theorem bulk_bound {H : Type} {l : List (DataW H)} (hk : Rows.uptoSmall H l = true) : Rows.uptoBulkAll l ≤ 1048576 := of_decide_eq_true hk
end Go.Proofs.YtkljakeccfnakaaGreatDoor
