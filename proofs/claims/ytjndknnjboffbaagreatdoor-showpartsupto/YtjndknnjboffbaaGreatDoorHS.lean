/-
  The walk of the document's own SameExpr.
-/
import Derived.Test.YtjndknnjboffbaaGreatDoorHP
namespace Go.Proofs.YtjndknnjboffbaaGreatDoor
open Go.RowKit

/-- The same expressions: places count, or they don't. -/
def SameX (pb : Bool) (x y : Ex) : Prop := if pb = true then x = y else er x = er y
noncomputable def sameB5 (pb : Bool) (x y : Ex) : Bool := @decide (SameX pb x y) (Classical.propDecidable _)
theorem same_yes {pb : Bool} {x y : Ex} (h : SameX pb x y) : sameB5 pb x y = true := @decide_eq_true _ (Classical.propDecidable _) h
theorem same_no {pb : Bool} {x y : Ex} (h : ¬ SameX pb x y) : sameB5 pb x y = false := @decide_eq_false _ (Classical.propDecidable _) h
theorem same_iff {pb : Bool} {x y : Ex} : sameB5 pb x y = true ↔ SameX pb x y := ⟨fun h => @of_decide_eq_true _ (Classical.propDecidable _) h, same_yes⟩
theorem erL_at : ∀ (l l2 : List Ex), erL l = erL l2 ↔ (l.length = l2.length ∧ ∀ (j : Nat) (a b : Ex), l[j]? = some a → l2[j]? = some b → er a = er b) := by
  intro l
  induction l with
  | nil =>
    intro l2
    cases l2 with
    | nil => simp [erL]
    | cons b r => simp [erL]
  | cons a r ih =>
    intro l2
    cases l2 with
    | nil => simp [erL]
    | cons b q =>
      simp only [erL, List.cons.injEq, List.length_cons, Nat.add_right_cancel_iff, ih q]
      constructor
      · rintro ⟨h1, h2, h3⟩
        refine ⟨h2, fun j c d hc hd => ?_⟩
        cases j with
        | zero => simp only [List.getElem?_cons_zero, Option.some.injEq] at hc hd; subst hc; subst hd; exact h1
        | succ j => simp only [List.getElem?_cons_succ] at hc hd; exact h3 j c d hc hd
      · rintro ⟨h2, h3⟩
        exact ⟨h3 0 a b rfl rfl, h2, fun j c d hc hd => h3 (j + 1) c d (by simpa using hc) (by simpa using hd)⟩
theorem eqL_at (l l2 : List Ex) : l = l2 ↔ (l.length = l2.length ∧ ∀ (j : Nat) (a b : Ex), l[j]? = some a → l2[j]? = some b → a = b) := by
  constructor
  · rintro rfl; exact ⟨rfl, fun j a b h1 h2 => by rw [h1] at h2; exact Option.some.inj h2⟩
  · rintro ⟨h1, h2⟩
    apply List.ext_getElem?
    intro j
    by_cases hj : j < l.length
    · rw [List.getElem?_eq_getElem hj, List.getElem?_eq_getElem (by omega)]
      exact congrArg some (h2 j _ _ (List.getElem?_eq_getElem hj) (List.getElem?_eq_getElem (by omega)))
    · rw [List.getElem?_eq_none (by omega), List.getElem?_eq_none (by omega)]
theorem same_parts (pb : Bool) (x y : Ex) : SameX pb x y ↔ (x.kind = y.kind ∧ x.text = y.text ∧ x.other = y.other ∧ x.n = y.n ∧ (pb = true → x.pl = y.pl) ∧ x.kids.length = y.kids.length ∧ ∀ (j : Nat) (a b : Ex), x.kids[j]? = some a → y.kids[j]? = some b → SameX pb a b) := by
  obtain ⟨k, t, o, n, p, l⟩ := x
  obtain ⟨k2, t2, o2, n2, p2, l2⟩ := y
  unfold SameX
  cases pb
  · simp only [Bool.false_eq_true, if_false, er, Ex.mk.injEq, Ex.kind, Ex.text, Ex.other, Ex.n, Ex.pl, Ex.kids, erL_at, false_implies, true_and]
  · simp only [if_true, Ex.mk.injEq, Ex.kind, Ex.text, Ex.other, Ex.n, Ex.pl, Ex.kids, true_implies]
    rw [eqL_at]

/-- A world in which what lay in W lies as it did. -/
structure Later (W : World) where
  v : World
  h : Below W.heap.size W v
theorem wp_region_later {P : Program} {id : Nat} {Q : Exit → Act → World → Prop} {a : Act} {w : World} {l : List Oper} (hm : P.follows .mixedOrders = true) (hB : Region.lexB .any l.toArray = true)
    (h : wpQuiet P l.toArray (fun w' => ∃ p : Later w, w' = p.v) (fun a' => ∀ w', (∃ p : Later w, w' = p.v) → Q .normal a' w') l a) : (Code.region id l.toArray true).wp P Q a w :=
  wp_region_quiet (C := fun w' => ∃ p : Later w, w' = p.v) hm hB ⟨⟨w.drew, (Below.refl _ _).drew⟩, rfl⟩ (by simpa using h)
theorem later_cell {W : World} {a : Addr} {x : Value} (hlt : a.block < W.heap.size) (h : W.cell? a = some x) (p : Later W) : p.v.cell? a = some x := (p.h.cell hlt).trans h
theorem calls_later {P : Program} {f : FuncId} {args : Array Value} {W : World} {p : Later W} {v : Value}
    (h : Calls P f args p.v fun e w' => e = .returned v ∧ Below p.v.heap.size p.v w') : Calls P f args p.v fun e w'' => e = .returned v ∧ ∃ q : Later W, w'' = q.v :=
  h.mono fun _ w'' ⟨he, hb⟩ => ⟨he, ⟨w'', bl2 p.h hb⟩, rfl⟩
theorem lt_cell {w : World} {b o : Nat} {u : Value} (h : w.cell? ⟨b, o, none⟩ = some u) : b < w.heap.size := World.block_lt_of_cell? w ⟨b, o, none⟩ h

theorem ne_nat (a b : Nat) : ((a : Int) != (b : Int)) = !decide (a = b) := by
  rw [Bool.eq_iff_iff, bne_iff_ne, Bool.not_eq_true', decide_eq_false_iff_not]; omega

set_option maxHeartbeats 2000000 in
theorem same_kind (kd1 : Nat) (nn1 : Int) (pp1 ln1 cp1 kd2 : Nat) (nn2 : Int) (pp2 ln2 cp2 : Nat) (tx1 ox1 tx2 ox2 : ByteArray) (a1 a2 : Option Addr) (pb : Bool) (w : World) (hkd : (((kd1 : Nat) : Int) != ((kd2 : Nat) : Int)) = true) :
    Calls Tryz.prog 34 #[.agg #[.int .i64 (kd1 : Int), .string tx1, .string ox1, .int .i64 (nn1 : Int), .int .i64 (pp1 : Int), .slice a1 ln1 cp1], .agg #[.int .i64 (kd2 : Int), .string tx2, .string ox2, .int .i64 (nn2 : Int), .int .i64 (pp2 : Int), .slice a2 ln2 cp2], .bool pb] w fun e w' => e = .returned (.bool false) ∧ Below w.heap.size w w' := by
  go_enter Tryz.func34, Tryz.ntmps34
  go_wp2
  go_ret
  exact ⟨rfl, ((Below.refl _ _).alloc (Nat.le_refl _) _).alloc (by simp) _⟩
set_option maxHeartbeats 2000000 in
theorem same_text (kd1 : Nat) (nn1 : Int) (pp1 ln1 cp1 kd2 : Nat) (nn2 : Int) (pp2 ln2 cp2 : Nat) (tx1 ox1 tx2 ox2 : ByteArray) (a1 a2 : Option Addr) (pb : Bool) (w : World) (hkd : (((kd1 : Nat) : Int) != ((kd2 : Nat) : Int)) = false) (htx : (tx1.toList == tx2.toList) = false) :
    Calls Tryz.prog 34 #[.agg #[.int .i64 (kd1 : Int), .string tx1, .string ox1, .int .i64 (nn1 : Int), .int .i64 (pp1 : Int), .slice a1 ln1 cp1], .agg #[.int .i64 (kd2 : Int), .string tx2, .string ox2, .int .i64 (nn2 : Int), .int .i64 (pp2 : Int), .slice a2 ln2 cp2], .bool pb] w fun e w' => e = .returned (.bool false) ∧ Below w.heap.size w w' := by
  go_enter Tryz.func34, Tryz.ntmps34
  go_wp2
  go_ret
  exact ⟨rfl, ((Below.refl _ _).alloc (Nat.le_refl _) _).alloc (by simp) _⟩
set_option maxHeartbeats 2000000 in
theorem same_other (kd1 : Nat) (nn1 : Int) (pp1 ln1 cp1 kd2 : Nat) (nn2 : Int) (pp2 ln2 cp2 : Nat) (tx1 ox1 tx2 ox2 : ByteArray) (a1 a2 : Option Addr) (pb : Bool) (w : World) (hkd : (((kd1 : Nat) : Int) != ((kd2 : Nat) : Int)) = false) (htx : (tx1.toList == tx2.toList) = true) (hox : (ox1.toList == ox2.toList) = false) :
    Calls Tryz.prog 34 #[.agg #[.int .i64 (kd1 : Int), .string tx1, .string ox1, .int .i64 (nn1 : Int), .int .i64 (pp1 : Int), .slice a1 ln1 cp1], .agg #[.int .i64 (kd2 : Int), .string tx2, .string ox2, .int .i64 (nn2 : Int), .int .i64 (pp2 : Int), .slice a2 ln2 cp2], .bool pb] w fun e w' => e = .returned (.bool false) ∧ Below w.heap.size w w' := by
  go_enter Tryz.func34, Tryz.ntmps34
  go_wp2
  go_ret
  exact ⟨rfl, ((Below.refl _ _).alloc (Nat.le_refl _) _).alloc (by simp) _⟩
set_option maxHeartbeats 2000000 in
theorem same_n (kd1 : Nat) (nn1 : Int) (pp1 ln1 cp1 kd2 : Nat) (nn2 : Int) (pp2 ln2 cp2 : Nat) (tx1 ox1 tx2 ox2 : ByteArray) (a1 a2 : Option Addr) (pb : Bool) (w : World) (hkd : (((kd1 : Nat) : Int) != ((kd2 : Nat) : Int)) = false) (htx : (tx1.toList == tx2.toList) = true) (hox : (ox1.toList == ox2.toList) = true) (hnn : ((nn1 : Int) != (nn2 : Int)) = true) :
    Calls Tryz.prog 34 #[.agg #[.int .i64 (kd1 : Int), .string tx1, .string ox1, .int .i64 (nn1 : Int), .int .i64 (pp1 : Int), .slice a1 ln1 cp1], .agg #[.int .i64 (kd2 : Int), .string tx2, .string ox2, .int .i64 (nn2 : Int), .int .i64 (pp2 : Int), .slice a2 ln2 cp2], .bool pb] w fun e w' => e = .returned (.bool false) ∧ Below w.heap.size w w' := by
  go_enter Tryz.func34, Tryz.ntmps34
  go_wp2
  go_ret
  exact ⟨rfl, ((Below.refl _ _).alloc (Nat.le_refl _) _).alloc (by simp) _⟩
set_option maxHeartbeats 2000000 in
theorem same_pl (kd1 : Nat) (nn1 : Int) (pp1 ln1 cp1 kd2 : Nat) (nn2 : Int) (pp2 ln2 cp2 : Nat) (tx1 ox1 tx2 ox2 : ByteArray) (a1 a2 : Option Addr) (pb : Bool) (w : World) (hkd : (((kd1 : Nat) : Int) != ((kd2 : Nat) : Int)) = false) (htx : (tx1.toList == tx2.toList) = true) (hox : (ox1.toList == ox2.toList) = true) (hnn : ((nn1 : Int) != (nn2 : Int)) = false) (hp : pb = true) (hpp : (((pp1 : Nat) : Int) != ((pp2 : Nat) : Int)) = true) :
    Calls Tryz.prog 34 #[.agg #[.int .i64 (kd1 : Int), .string tx1, .string ox1, .int .i64 (nn1 : Int), .int .i64 (pp1 : Int), .slice a1 ln1 cp1], .agg #[.int .i64 (kd2 : Int), .string tx2, .string ox2, .int .i64 (nn2 : Int), .int .i64 (pp2 : Int), .slice a2 ln2 cp2], .bool pb] w fun e w' => e = .returned (.bool false) ∧ Below w.heap.size w w' := by
  subst hp
  go_enter Tryz.func34, Tryz.ntmps34
  go_wp2
  go_ret
  exact ⟨rfl, ((Below.refl _ _).alloc (Nat.le_refl _) _).alloc (by simp) _⟩
set_option maxHeartbeats 2000000 in
theorem same_lenT (kd1 : Nat) (nn1 : Int) (pp1 ln1 cp1 kd2 : Nat) (nn2 : Int) (pp2 ln2 cp2 : Nat) (tx1 ox1 tx2 ox2 : ByteArray) (a1 a2 : Option Addr) (pb : Bool) (w : World) (hkd : (((kd1 : Nat) : Int) != ((kd2 : Nat) : Int)) = false) (htx : (tx1.toList == tx2.toList) = true) (hox : (ox1.toList == ox2.toList) = true) (hnn : ((nn1 : Int) != (nn2 : Int)) = false) (hp : pb = true) (hpp : (((pp1 : Nat) : Int) != ((pp2 : Nat) : Int)) = false) (hln : (((ln1 : Nat) : Int) != ((ln2 : Nat) : Int)) = true) :
    Calls Tryz.prog 34 #[.agg #[.int .i64 (kd1 : Int), .string tx1, .string ox1, .int .i64 (nn1 : Int), .int .i64 (pp1 : Int), .slice a1 ln1 cp1], .agg #[.int .i64 (kd2 : Int), .string tx2, .string ox2, .int .i64 (nn2 : Int), .int .i64 (pp2 : Int), .slice a2 ln2 cp2], .bool pb] w fun e w' => e = .returned (.bool false) ∧ Below w.heap.size w w' := by
  subst hp
  go_enter Tryz.func34, Tryz.ntmps34
  go_wp2
  go_ret
  exact ⟨rfl, ((Below.refl _ _).alloc (Nat.le_refl _) _).alloc (by simp) _⟩
set_option maxHeartbeats 2000000 in
theorem same_lenF (kd1 : Nat) (nn1 : Int) (pp1 ln1 cp1 kd2 : Nat) (nn2 : Int) (pp2 ln2 cp2 : Nat) (tx1 ox1 tx2 ox2 : ByteArray) (a1 a2 : Option Addr) (pb : Bool) (w : World) (hkd : (((kd1 : Nat) : Int) != ((kd2 : Nat) : Int)) = false) (htx : (tx1.toList == tx2.toList) = true) (hox : (ox1.toList == ox2.toList) = true) (hnn : ((nn1 : Int) != (nn2 : Int)) = false) (hp : pb = false) (hln : (((ln1 : Nat) : Int) != ((ln2 : Nat) : Int)) = true) :
    Calls Tryz.prog 34 #[.agg #[.int .i64 (kd1 : Int), .string tx1, .string ox1, .int .i64 (nn1 : Int), .int .i64 (pp1 : Int), .slice a1 ln1 cp1], .agg #[.int .i64 (kd2 : Int), .string tx2, .string ox2, .int .i64 (nn2 : Int), .int .i64 (pp2 : Int), .slice a2 ln2 cp2], .bool pb] w fun e w' => e = .returned (.bool false) ∧ Below w.heap.size w w' := by
  subst hp
  go_enter Tryz.func34, Tryz.ntmps34
  go_wp2
  go_ret
  exact ⟨rfl, ((Below.refl _ _).alloc (Nat.le_refl _) _).alloc (by simp) _⟩

/-- The kids of two expressions, one by one. -/
def KidsSame (pb : Bool) (x y : Ex) : Prop := ∀ (j : Nat) (a b : Ex), x.kids[j]? = some a → y.kids[j]? = some b → SameX pb a b
noncomputable def kidsB (pb : Bool) (x y : Ex) : Bool := @decide (KidsSame pb x y) (Classical.propDecidable _)
theorem kids_yes {pb : Bool} {x y : Ex} (h : KidsSame pb x y) : kidsB pb x y = true := @decide_eq_true _ (Classical.propDecidable _) h
theorem kids_no {pb : Bool} {x y : Ex} (h : ¬ KidsSame pb x y) : kidsB pb x y = false := @decide_eq_false _ (Classical.propDecidable _) h
theorem kids_iff {pb : Bool} {x y : Ex} : kidsB pb x y = true ↔ KidsSame pb x y := ⟨fun h => @of_decide_eq_true _ (Classical.propDecidable _) h, kids_yes⟩
/-- Where the kids of two expressions are the same, one behind the other. -/
structure KidsK (lo lo2 : Nat) (w : World) (x y : Ex) (pb : Bool) : Prop where
  calls : ∀ (j : Nat) (p q : Ex) (u v : Value) (W : World), x.kids[j]? = some p → y.kids[j]? = some q → Below w.heap.size w W → ExV lo w u p → ExV lo2 w v q → Calls Tryz.prog 34 #[u, v, .bool pb] W fun e w' => e = .returned (.bool (sameB5 pb p q)) ∧ Below W.heap.size W w'

set_option maxHeartbeats 8000000 in
theorem same_loop (x y : Ex) (pb : Bool) (lo lo2 : Nat) (w : World) (b1 o1 cp1 b2 o2 cp2 : Nat) (kd : Nat) (nn : Int) (pp pp2 : Nat) (tx ox : ByteArray) (K : KidsK lo lo2 w x y pb) (n : Nat) (hn : x.kids.length = n) (hn2 : y.kids.length = n) (h1m : n ≤ 1000000) (hpp : pb = true → pp = pp2)
    (hX : ∀ (j : Nat) (p : Ex), x.kids[j]? = some p → ∃ (kd : Nat) (nn : Int) (pp : Nat) (tx ox : ByteArray) (a : Option Addr) (ln cp : Nat), b1 < w.heap.size ∧ (w.cell? ⟨b1, o1 + j * 6, none⟩ = some (.int .i64 (kd : Int)) ∧ w.cell? ⟨b1, o1 + j * 6 + 1, none⟩ = some (.string tx) ∧ w.cell? ⟨b1, o1 + j * 6 + 2, none⟩ = some (.string ox) ∧ w.cell? ⟨b1, o1 + j * 6 + 3, none⟩ = some (.int .i64 (nn : Int)) ∧ w.cell? ⟨b1, o1 + j * 6 + 4, none⟩ = some (.int .i64 (pp : Int)) ∧ w.cell? ⟨b1, o1 + j * 6 + 5, none⟩ = some (.slice a ln cp)) ∧ ExV lo w (.agg #[.int .i64 (kd : Int), .string tx, .string ox, .int .i64 (nn : Int), .int .i64 (pp : Int), .slice a ln cp]) p)
    (hY : ∀ (j : Nat) (p : Ex), y.kids[j]? = some p → ∃ (kd : Nat) (nn : Int) (pp : Nat) (tx ox : ByteArray) (a : Option Addr) (ln cp : Nat), b2 < w.heap.size ∧ (w.cell? ⟨b2, o2 + j * 6, none⟩ = some (.int .i64 (kd : Int)) ∧ w.cell? ⟨b2, o2 + j * 6 + 1, none⟩ = some (.string tx) ∧ w.cell? ⟨b2, o2 + j * 6 + 2, none⟩ = some (.string ox) ∧ w.cell? ⟨b2, o2 + j * 6 + 3, none⟩ = some (.int .i64 (nn : Int)) ∧ w.cell? ⟨b2, o2 + j * 6 + 4, none⟩ = some (.int .i64 (pp : Int)) ∧ w.cell? ⟨b2, o2 + j * 6 + 5, none⟩ = some (.slice a ln cp)) ∧ ExV lo2 w (.agg #[.int .i64 (kd : Int), .string tx, .string ox, .int .i64 (nn : Int), .int .i64 (pp : Int), .slice a ln cp]) p) :
    Calls Tryz.prog 34 #[.agg #[.int .i64 (kd : Int), .string tx, .string ox, .int .i64 (nn : Int), .int .i64 (pp : Int), .slice (some ⟨b1, o1, none⟩) n cp1], .agg #[.int .i64 (kd : Int), .string tx, .string ox, .int .i64 (nn : Int), .int .i64 (pp2 : Int), .slice (some ⟨b2, o2, none⟩) n cp2], .bool pb] w fun e w' => e = .returned (.bool (kidsB pb x y)) ∧ Below w.heap.size w w' := by
  have HN : Hid (x.kids.length = n ∧ y.kids.length = n) := ⟨hn, hn2⟩
  clear hn hn2
  have HXY : Hid (_ ∧ _) := ⟨hX, hY⟩
  clear hX hY
  have HKK : Hid (KidsK lo lo2 w x y pb) := K
  clear K
  have zz : ((n : Int) != (n : Int)) = false := by simp
  have zk : ((kd : Int) != (kd : Int)) = false := by simp
  have zn : ((nn : Int) != (nn : Int)) = false := by simp
  have zt : (tx.toList == tx.toList) = true := by simp
  have zo : (ox.toList == ox.toList) = true := by simp
  have zp : pb = true → ((pp : Int) != (pp2 : Int)) = false := fun h => by rw [hpp h]; simp
  clear hpp
  cases pb with
  | false =>
    clear zp
    go_enter Tryz.func34, Tryz.ntmps34
    go_wp2
    go_loopw [7] (fun t wr => ∃ (i : Nat), i ≤ n ∧ t = .int .i64 i ∧ Hid (∀ (j : Nat) (a b : Ex), j < i → x.kids[j]? = some a → y.kids[j]? = some b → SameX false a b) ∧ Below w.heap.size w wr ∧ wr.cell? ⟨w.heap.size, 5, none⟩ = some (.slice (some ⟨b1, o1, none⟩) n cp1) ∧ wr.cell? ⟨w.heap.size + 1, 5, none⟩ = some (.slice (some ⟨b2, o2, none⟩) n cp2)) (fun t _ => n - (intOf t).toNat)
    case atStart => exact ⟨0, Nat.zero_le _, rfl, fun j a b hj => by omega, ba (ba (Below.refl _ _)), by go_simp, by go_simp⟩
    case round =>
      obtain ⟨i, hi, rfl, hs, hb, c5, d5⟩ := hrel
      by_cases c : i < n
      · have c' : (i : Int) < (n : Int) := by omega
        obtain ⟨p, hp⟩ : ∃ p, x.kids[i]? = some p := ⟨_, List.getElem?_eq_getElem (by have := HN.out.1; omega)⟩
        obtain ⟨q, hq⟩ : ∃ q, y.kids[i]? = some q := ⟨_, List.getElem?_eq_getElem (by have := HN.out.2; omega)⟩
        obtain ⟨kd3, nn3, pp3, tx3, ox3, a3, ln3, cp3, l3, ⟨k0, k1, k2, k3, k4, k5⟩, hx3⟩ := HXY.out.1 i p hp
        obtain ⟨kd4, nn4, pp4, tx4, ox4, a4, ln4, cp4, l4, ⟨m0, m1, m2, m3, m4, m5⟩, hx4⟩ := HXY.out.2 i q hq
        have HC : Hid (∀ W : World, Below w.heap.size w W → Calls Tryz.prog 34 #[.agg #[.int .i64 (kd3 : Int), .string tx3, .string ox3, .int .i64 (nn3 : Int), .int .i64 (pp3 : Int), .slice a3 ln3 cp3], .agg #[.int .i64 (kd4 : Int), .string tx4, .string ox4, .int .i64 (nn4 : Int), .int .i64 (pp4 : Int), .slice a4 ln4 cp4], .bool false] W fun e w' => e = .returned (.bool (sameB5 false p q)) ∧ Below W.heap.size W w') := fun W hW => HKK.out.calls i p q _ _ W hp hq hW hx3 hx4
        have HPQ : Hid (x.kids[i]? = some p ∧ y.kids[i]? = some q) := ⟨hp, hq⟩
        have g1 := Nat.lt_of_lt_of_le l3 hb.size
        have g2 := Nat.lt_of_lt_of_le l4 hb.size
        have L0 := later_cell (W := wr) (a := ⟨b1, o1 + i * 6, none⟩) g1 ((hb.cell (p := ⟨b1, o1 + i * 6, none⟩) l3).trans k0)
        have M0 := later_cell (W := wr) (a := ⟨b2, o2 + i * 6, none⟩) g2 ((hb.cell (p := ⟨b2, o2 + i * 6, none⟩) l4).trans m0)
        have L1 := later_cell (W := wr) (a := ⟨b1, o1 + i * 6 + 1, none⟩) g1 ((hb.cell (p := ⟨b1, o1 + i * 6 + 1, none⟩) l3).trans k1)
        have M1 := later_cell (W := wr) (a := ⟨b2, o2 + i * 6 + 1, none⟩) g2 ((hb.cell (p := ⟨b2, o2 + i * 6 + 1, none⟩) l4).trans m1)
        have L2 := later_cell (W := wr) (a := ⟨b1, o1 + i * 6 + 2, none⟩) g1 ((hb.cell (p := ⟨b1, o1 + i * 6 + 2, none⟩) l3).trans k2)
        have M2 := later_cell (W := wr) (a := ⟨b2, o2 + i * 6 + 2, none⟩) g2 ((hb.cell (p := ⟨b2, o2 + i * 6 + 2, none⟩) l4).trans m2)
        have L3 := later_cell (W := wr) (a := ⟨b1, o1 + i * 6 + 3, none⟩) g1 ((hb.cell (p := ⟨b1, o1 + i * 6 + 3, none⟩) l3).trans k3)
        have M3 := later_cell (W := wr) (a := ⟨b2, o2 + i * 6 + 3, none⟩) g2 ((hb.cell (p := ⟨b2, o2 + i * 6 + 3, none⟩) l4).trans m3)
        have L4 := later_cell (W := wr) (a := ⟨b1, o1 + i * 6 + 4, none⟩) g1 ((hb.cell (p := ⟨b1, o1 + i * 6 + 4, none⟩) l3).trans k4)
        have M4 := later_cell (W := wr) (a := ⟨b2, o2 + i * 6 + 4, none⟩) g2 ((hb.cell (p := ⟨b2, o2 + i * 6 + 4, none⟩) l4).trans m4)
        have L5 := later_cell (W := wr) (a := ⟨b1, o1 + i * 6 + 5, none⟩) g1 ((hb.cell (p := ⟨b1, o1 + i * 6 + 5, none⟩) l3).trans k5)
        have M5 := later_cell (W := wr) (a := ⟨b2, o2 + i * 6 + 5, none⟩) g2 ((hb.cell (p := ⟨b2, o2 + i * 6 + 5, none⟩) l4).trans m5)
        have X5 := later_cell (W := wr) (a := ⟨w.heap.size, 5, none⟩) (lt_cell c5) c5
        have Y5 := later_cell (W := wr) (a := ⟨w.heap.size + 1, 5, none⟩) (lt_cell d5) d5
        have ne : Nonempty (Later wr) := ⟨⟨wr, Below.refl _ _⟩⟩
        have BW : Hid (Below w.heap.size w wr) := hb
        clear k0 k1 k2 k3 k4 k5 m0 m1 m2 m3 m4 m5 hx3 hx4 hp hq
        cases hr : sameB5 false p q
        · rw [hr] at HC
          have N : Hid (kidsB false x y = false) := kids_no fun h => by
            have := same_yes (h i p q HPQ.out.1 HPQ.out.2); rw [hr] at this; cases this
          clear hr
          go_wp2_with fail
          refine wp_region_later (by kernel_rfl) (by kernel_rfl) ?_
          repeat (go_big_quiet_step ((go_at_call 34; exact calls_later (HC.out _ (bl2 BW.out (Later.h _))))))
          refine wpQuiet_nil ?_
          rintro wq ⟨⟨wv, hwq⟩, hE⟩; obtain rfl : wq = wv := hE
          clear L0 L1 L2 L3 L4 L5 M0 M1 M2 M3 M4 M5 X5 Y5 ne
          go_wp2_with fail
          go_ret
          exact ⟨ret_bool (by rw [N.out]), bl2 BW.out hwq⟩
        · rw [hr] at HC
          have SS : Hid (SameX false p q) := same_iff.1 hr
          clear hr
          go_wp2_with fail
          refine wp_region_later (by kernel_rfl) (by kernel_rfl) ?_
          repeat (go_big_quiet_step ((go_at_call 34; exact calls_later (HC.out _ (bl2 BW.out (Later.h _))))))
          refine wpQuiet_nil ?_
          rintro wq ⟨⟨wv, hwq⟩, hE⟩; obtain rfl : wq = wv := hE
          have z5 := X5 ⟨wq, hwq⟩
          have w5 := Y5 ⟨wq, hwq⟩
          clear L0 L1 L2 L3 L4 L5 M0 M1 M2 M3 M4 M5 X5 Y5 ne
          go_wp2_with fail
          go_roundw
          case rel =>
            refine ⟨i + 1, by omega, by go_num, fun j a b hj ha hb' => ?_, bl2 BW.out hwq, z5, w5⟩
            by_cases e : j = i
            · subst e
              rw [HPQ.out.1] at ha; rw [HPQ.out.2] at hb'
              obtain rfl := Option.some.inj ha; obtain rfl := Option.some.inj hb'
              exact SS.out
            · exact hs.out j a b (by omega) ha hb'
          case measure => simp [intOf]; omega
      · have c' : ¬ (i : Int) < (n : Int) := by omega
        go_wp2_with fail
        go_ret
        exact ⟨ret_bool (kids_yes fun j a b ha hb' => hs.out j a b (by have := (List.getElem?_eq_some_iff.1 ha).1; have := HN.out.1; omega) ha hb').symm, hb⟩
  | true =>
    have zp := zp rfl
    go_enter Tryz.func34, Tryz.ntmps34
    go_wp2
    go_loopw [7] (fun t wr => ∃ (i : Nat), i ≤ n ∧ t = .int .i64 i ∧ Hid (∀ (j : Nat) (a b : Ex), j < i → x.kids[j]? = some a → y.kids[j]? = some b → SameX true a b) ∧ Below w.heap.size w wr ∧ wr.cell? ⟨w.heap.size, 5, none⟩ = some (.slice (some ⟨b1, o1, none⟩) n cp1) ∧ wr.cell? ⟨w.heap.size + 1, 5, none⟩ = some (.slice (some ⟨b2, o2, none⟩) n cp2)) (fun t _ => n - (intOf t).toNat)
    case atStart => exact ⟨0, Nat.zero_le _, rfl, fun j a b hj => by omega, ba (ba (Below.refl _ _)), by go_simp, by go_simp⟩
    case round =>
      obtain ⟨i, hi, rfl, hs, hb, c5, d5⟩ := hrel
      by_cases c : i < n
      · have c' : (i : Int) < (n : Int) := by omega
        obtain ⟨p, hp⟩ : ∃ p, x.kids[i]? = some p := ⟨_, List.getElem?_eq_getElem (by have := HN.out.1; omega)⟩
        obtain ⟨q, hq⟩ : ∃ q, y.kids[i]? = some q := ⟨_, List.getElem?_eq_getElem (by have := HN.out.2; omega)⟩
        obtain ⟨kd3, nn3, pp3, tx3, ox3, a3, ln3, cp3, l3, ⟨k0, k1, k2, k3, k4, k5⟩, hx3⟩ := HXY.out.1 i p hp
        obtain ⟨kd4, nn4, pp4, tx4, ox4, a4, ln4, cp4, l4, ⟨m0, m1, m2, m3, m4, m5⟩, hx4⟩ := HXY.out.2 i q hq
        have HC : Hid (∀ W : World, Below w.heap.size w W → Calls Tryz.prog 34 #[.agg #[.int .i64 (kd3 : Int), .string tx3, .string ox3, .int .i64 (nn3 : Int), .int .i64 (pp3 : Int), .slice a3 ln3 cp3], .agg #[.int .i64 (kd4 : Int), .string tx4, .string ox4, .int .i64 (nn4 : Int), .int .i64 (pp4 : Int), .slice a4 ln4 cp4], .bool true] W fun e w' => e = .returned (.bool (sameB5 true p q)) ∧ Below W.heap.size W w') := fun W hW => HKK.out.calls i p q _ _ W hp hq hW hx3 hx4
        have HPQ : Hid (x.kids[i]? = some p ∧ y.kids[i]? = some q) := ⟨hp, hq⟩
        have g1 := Nat.lt_of_lt_of_le l3 hb.size
        have g2 := Nat.lt_of_lt_of_le l4 hb.size
        have L0 := later_cell (W := wr) (a := ⟨b1, o1 + i * 6, none⟩) g1 ((hb.cell (p := ⟨b1, o1 + i * 6, none⟩) l3).trans k0)
        have M0 := later_cell (W := wr) (a := ⟨b2, o2 + i * 6, none⟩) g2 ((hb.cell (p := ⟨b2, o2 + i * 6, none⟩) l4).trans m0)
        have L1 := later_cell (W := wr) (a := ⟨b1, o1 + i * 6 + 1, none⟩) g1 ((hb.cell (p := ⟨b1, o1 + i * 6 + 1, none⟩) l3).trans k1)
        have M1 := later_cell (W := wr) (a := ⟨b2, o2 + i * 6 + 1, none⟩) g2 ((hb.cell (p := ⟨b2, o2 + i * 6 + 1, none⟩) l4).trans m1)
        have L2 := later_cell (W := wr) (a := ⟨b1, o1 + i * 6 + 2, none⟩) g1 ((hb.cell (p := ⟨b1, o1 + i * 6 + 2, none⟩) l3).trans k2)
        have M2 := later_cell (W := wr) (a := ⟨b2, o2 + i * 6 + 2, none⟩) g2 ((hb.cell (p := ⟨b2, o2 + i * 6 + 2, none⟩) l4).trans m2)
        have L3 := later_cell (W := wr) (a := ⟨b1, o1 + i * 6 + 3, none⟩) g1 ((hb.cell (p := ⟨b1, o1 + i * 6 + 3, none⟩) l3).trans k3)
        have M3 := later_cell (W := wr) (a := ⟨b2, o2 + i * 6 + 3, none⟩) g2 ((hb.cell (p := ⟨b2, o2 + i * 6 + 3, none⟩) l4).trans m3)
        have L4 := later_cell (W := wr) (a := ⟨b1, o1 + i * 6 + 4, none⟩) g1 ((hb.cell (p := ⟨b1, o1 + i * 6 + 4, none⟩) l3).trans k4)
        have M4 := later_cell (W := wr) (a := ⟨b2, o2 + i * 6 + 4, none⟩) g2 ((hb.cell (p := ⟨b2, o2 + i * 6 + 4, none⟩) l4).trans m4)
        have L5 := later_cell (W := wr) (a := ⟨b1, o1 + i * 6 + 5, none⟩) g1 ((hb.cell (p := ⟨b1, o1 + i * 6 + 5, none⟩) l3).trans k5)
        have M5 := later_cell (W := wr) (a := ⟨b2, o2 + i * 6 + 5, none⟩) g2 ((hb.cell (p := ⟨b2, o2 + i * 6 + 5, none⟩) l4).trans m5)
        have X5 := later_cell (W := wr) (a := ⟨w.heap.size, 5, none⟩) (lt_cell c5) c5
        have Y5 := later_cell (W := wr) (a := ⟨w.heap.size + 1, 5, none⟩) (lt_cell d5) d5
        have ne : Nonempty (Later wr) := ⟨⟨wr, Below.refl _ _⟩⟩
        have BW : Hid (Below w.heap.size w wr) := hb
        clear k0 k1 k2 k3 k4 k5 m0 m1 m2 m3 m4 m5 hx3 hx4 hp hq
        cases hr : sameB5 true p q
        · rw [hr] at HC
          have N : Hid (kidsB true x y = false) := kids_no fun h => by
            have := same_yes (h i p q HPQ.out.1 HPQ.out.2); rw [hr] at this; cases this
          clear hr
          go_wp2_with fail
          refine wp_region_later (by kernel_rfl) (by kernel_rfl) ?_
          repeat (go_big_quiet_step ((go_at_call 34; exact calls_later (HC.out _ (bl2 BW.out (Later.h _))))))
          refine wpQuiet_nil ?_
          rintro wq ⟨⟨wv, hwq⟩, hE⟩; obtain rfl : wq = wv := hE
          clear L0 L1 L2 L3 L4 L5 M0 M1 M2 M3 M4 M5 X5 Y5 ne
          go_wp2_with fail
          go_ret
          exact ⟨ret_bool (by rw [N.out]), bl2 BW.out hwq⟩
        · rw [hr] at HC
          have SS : Hid (SameX true p q) := same_iff.1 hr
          clear hr
          go_wp2_with fail
          refine wp_region_later (by kernel_rfl) (by kernel_rfl) ?_
          repeat (go_big_quiet_step ((go_at_call 34; exact calls_later (HC.out _ (bl2 BW.out (Later.h _))))))
          refine wpQuiet_nil ?_
          rintro wq ⟨⟨wv, hwq⟩, hE⟩; obtain rfl : wq = wv := hE
          have z5 := X5 ⟨wq, hwq⟩
          have w5 := Y5 ⟨wq, hwq⟩
          clear L0 L1 L2 L3 L4 L5 M0 M1 M2 M3 M4 M5 X5 Y5 ne
          go_wp2_with fail
          go_roundw
          case rel =>
            refine ⟨i + 1, by omega, by go_num, fun j a b hj ha hb' => ?_, bl2 BW.out hwq, z5, w5⟩
            by_cases e : j = i
            · subst e
              rw [HPQ.out.1] at ha; rw [HPQ.out.2] at hb'
              obtain rfl := Option.some.inj ha; obtain rfl := Option.some.inj hb'
              exact SS.out
            · exact hs.out j a b (by omega) ha hb'
          case measure => simp [intOf]; omega
      · have c' : ¬ (i : Int) < (n : Int) := by omega
        go_wp2_with fail
        go_ret
        exact ⟨ret_bool (kids_yes fun j a b ha hb' => hs.out j a b (by have := (List.getElem?_eq_some_iff.1 ha).1; have := HN.out.1; omega) ha hb').symm, hb⟩

set_option maxHeartbeats 4000000 in
theorem same_nil (pb : Bool) (w : World) (kd : Nat) (nn : Int) (pp pp2 cp1 cp2 : Nat) (tx ox : ByteArray) (a1 a2 : Option Addr) (hpp : pb = true → pp = pp2) :
    Calls Tryz.prog 34 #[.agg #[.int .i64 (kd : Int), .string tx, .string ox, .int .i64 (nn : Int), .int .i64 (pp : Int), .slice a1 0 cp1], .agg #[.int .i64 (kd : Int), .string tx, .string ox, .int .i64 (nn : Int), .int .i64 (pp2 : Int), .slice a2 0 cp2], .bool pb] w fun e w' => e = .returned (.bool true) ∧ Below w.heap.size w w' := by
  have zk : ((kd : Int) != (kd : Int)) = false := by simp
  have zn : ((nn : Int) != (nn : Int)) = false := by simp
  have zt : (tx.toList == tx.toList) = true := by simp
  have zo : (ox.toList == ox.toList) = true := by simp
  have zp : pb = true → ((pp : Int) != (pp2 : Int)) = false := fun h => by rw [hpp h]; simp
  clear hpp
  cases pb with
  | false =>
    clear zp
    go_enter Tryz.func34, Tryz.ntmps34
    go_wp2
    go_loopw [7] (fun t wr => t = .int .i64 0 ∧ Below w.heap.size w wr ∧ wr.cell? ⟨w.heap.size, 5, none⟩ = some (.slice a1 0 cp1)) (fun _ _ => 0)
    case atStart => exact ⟨rfl, ba (ba (Below.refl _ _)), by go_simp⟩
    case round =>
      obtain ⟨rfl, hb, c5⟩ := hrel
      go_wp2_with fail
      go_ret
      exact ⟨rfl, hb⟩
  | true =>
    have zp := zp rfl
    go_enter Tryz.func34, Tryz.ntmps34
    go_wp2
    go_loopw [7] (fun t wr => t = .int .i64 0 ∧ Below w.heap.size w wr ∧ wr.cell? ⟨w.heap.size, 5, none⟩ = some (.slice a1 0 cp1)) (fun _ _ => 0)
    case atStart => exact ⟨rfl, ba (ba (Below.refl _ _)), by go_simp⟩
    case round =>
      obtain ⟨rfl, hb, c5⟩ := hrel
      go_wp2_with fail
      go_ret
      exact ⟨rfl, hb⟩

theorem kids_row {lo : Nat} {w : World} {v : Value} {x : Ex} (h : ExV lo w v x) (hne : x.kids ≠ []) : ∃ (b off cap : Nat),
    v = .agg #[.int .i64 (x.kind : Int), .string ⟨x.text.toArray⟩, .string ⟨x.other.toArray⟩, .int .i64 (x.n : Int), .int .i64 (x.pl : Int), .slice (some ⟨b, off, none⟩) x.kids.length cap] ∧ x.kids.length ≤ cap ∧
    ∀ (j : Nat) (p : Ex), x.kids[j]? = some p → ∃ (kd : Nat) (nn : Int) (pp : Nat) (tx ox : ByteArray) (a : Option Addr) (ln cp : Nat), b < w.heap.size ∧ (w.cell? ⟨b, off + j * 6, none⟩ = some (.int .i64 (kd : Int)) ∧ w.cell? ⟨b, off + j * 6 + 1, none⟩ = some (.string tx) ∧ w.cell? ⟨b, off + j * 6 + 2, none⟩ = some (.string ox) ∧ w.cell? ⟨b, off + j * 6 + 3, none⟩ = some (.int .i64 (nn : Int)) ∧ w.cell? ⟨b, off + j * 6 + 4, none⟩ = some (.int .i64 (pp : Int)) ∧ w.cell? ⟨b, off + j * 6 + 5, none⟩ = some (.slice a ln cp)) ∧ ExV lo w (.agg #[.int .i64 (kd : Int), .string tx, .string ox, .int .i64 (nn : Int), .int .i64 (pp : Int), .slice a ln cp]) p := by
  cases h with
  | leaf k t o n p => exact absurd rfl hne
  | node k t o n p b off cap kids vs hlo hb hcap hc hk =>
    refine ⟨b, off, cap, rfl, hcap.1, fun j y hy => ?_⟩
    have hj : j < kids.length := (List.getElem?_eq_some_iff.1 hy).1
    have hx := hk j y hy
    have c := hc j hj
    obtain ⟨nn, tx, ox, a, ln, cp, e, -⟩ := hx.form2
    rw [e] at hx c
    exact ⟨y.kind, nn, y.pl, tx, ox, a, ln, cp, hb, ⟨c 0 (by omega), c 1 (by omega), c 2 (by omega), c 3 (by omega), c 4 (by omega), c 5 (by omega)⟩, hx⟩
theorem str_ne {s t : List UInt8} (h : ¬ s = t) : ((⟨s.toArray⟩ : ByteArray).toList == (⟨t.toArray⟩ : ByteArray).toList) = false := by
  rw [Lib.toList_data, Lib.toList_data, beq_eq_false_iff_ne]; exact h
theorem str_same {s t : List UInt8} (h : s = t) : ((⟨s.toArray⟩ : ByteArray).toList == (⟨t.toArray⟩ : ByteArray).toList) = true := by subst h; simp
theorem intx_ne {a b : Int} (h : ¬ a = b) : (a != b) = true := by rw [bne_iff_ne]; exact h
theorem intx_same {a b : Int} (h : a = b) : (a != b) = false := by rw [h]; simp
theorem nat_ne {a b : Nat} (h : ¬ a = b) : ((a : Int) != (b : Int)) = true := by rw [ne_nat, decide_eq_false h]; rfl
theorem nat_same {a b : Nat} (h : a = b) : ((a : Int) != (b : Int)) = false := by rw [ne_nat, decide_eq_true h]; rfl

/-- The document's own SameExpr tells whether two expressions are the same. -/
theorem same_any (N : Nat) : ∀ (x y : Ex) (u v : Value) (pb : Bool) (lo lo2 : Nat) (w : World), szE x ≤ N → ExV lo w u x → ExV lo2 w v y →
    Calls Tryz.prog 34 #[u, v, .bool pb] w fun e w' => e = .returned (.bool (sameB5 pb x y)) ∧ Below w.heap.size w w' := by
  induction N with
  | zero => intro x y u v pb lo lo2 w h; cases x; simp [szE] at h
  | succ N ih =>
    intro x y u v pb lo lo2 w hN hx hy
    obtain ⟨a1, cp1, rfl⟩ := hx.form
    obtain ⟨a2, cp2, rfl⟩ := hy.form
    have sp := same_parts pb x y
    by_cases h1 : x.kind = y.kind
    case neg => rw [same_no (fun h => h1 (sp.1 h).1)]; exact same_kind _ _ _ _ _ _ _ _ _ _ _ _ _ _ _ _ pb w (nat_ne h1)
    by_cases h2 : x.text = y.text
    case neg => rw [same_no (fun h => h2 (sp.1 h).2.1)]; exact same_text _ _ _ _ _ _ _ _ _ _ _ _ _ _ _ _ pb w (nat_same h1) (str_ne h2)
    by_cases h3 : x.other = y.other
    case neg => rw [same_no (fun h => h3 (sp.1 h).2.2.1)]; exact same_other _ _ _ _ _ _ _ _ _ _ _ _ _ _ _ _ pb w (nat_same h1) (str_same h2) (str_ne h3)
    by_cases h4 : x.n = y.n
    case neg => rw [same_no (fun h => h4 (sp.1 h).2.2.2.1)]; exact same_n _ _ _ _ _ _ _ _ _ _ _ _ _ _ _ _ pb w (nat_same h1) (str_same h2) (str_same h3) (intx_ne h4)
    by_cases h5 : pb = true → x.pl = y.pl
    case neg =>
      obtain ⟨hp, h5'⟩ := Classical.not_imp.1 h5
      rw [same_no (fun h => h5 (sp.1 h).2.2.2.2.1)]; exact same_pl _ _ _ _ _ _ _ _ _ _ _ _ _ _ _ _ pb w (nat_same h1) (str_same h2) (str_same h3) (intx_same h4) hp (nat_ne h5')
    by_cases h6 : x.kids.length = y.kids.length
    case neg =>
      rw [same_no (fun h => h6 (sp.1 h).2.2.2.2.2.1)]
      cases pb with
      | false => exact same_lenF _ _ _ _ _ _ _ _ _ _ _ _ _ _ _ _ false w (nat_same h1) (str_same h2) (str_same h3) (intx_same h4) rfl (nat_ne h6)
      | true => exact same_lenT _ _ _ _ _ _ _ _ _ _ _ _ _ _ _ _ true w (nat_same h1) (str_same h2) (str_same h3) (intx_same h4) rfl (nat_same (h5 rfl)) (nat_ne h6)
    have kb : sameB5 pb x y = kidsB pb x y := by
      rw [Bool.eq_iff_iff, same_iff, kids_iff, sp]
      exact ⟨fun h => h.2.2.2.2.2.2, fun h => ⟨h1, h2, h3, h4, h5, h6, h⟩⟩
    rw [kb]
    by_cases h0 : x.kids = []
    · have hl : x.kids.length = 0 := by rw [h0]; rfl
      have hk : kidsB pb x y = true := kids_yes fun j a b ha => by rw [h0] at ha; simp at ha
      rw [hk, hl, ← h6, hl, ← h1, ← h2, ← h3, ← h4]
      exact same_nil pb w _ _ _ _ cp1 cp2 _ _ a1 a2 h5
    · have h0' : y.kids ≠ [] := fun e => h0 (List.eq_nil_of_length_eq_zero (by rw [h6, e]; rfl))
      obtain ⟨b1, o1, cq1, e1, _, r1⟩ := kids_row hx h0
      obtain ⟨b2, o2, cq2, e2, _, r2⟩ := kids_row hy h0'
      rw [e1, e2, ← h6, ← h1, ← h2, ← h3, ← h4]
      refine same_loop x y pb lo lo2 w b1 o1 cq1 b2 o2 cq2 _ _ _ _ _ _ ⟨fun j p q u v W hp hq hW hu hv => ?_⟩ _ rfl h6.symm (kids_len hx) h5 r1 r2
      have hs := szL_mem _ j p hp
      exact ih p q u v pb lo lo2 W (by cases x; simp only [szE, Ex.kids] at *; omega) (hu.keep ⟨hW.size, fun b _ h2 => hW.block b h2⟩) (hv.keep ⟨hW.size, fun b _ h2 => hW.block b h2⟩)
end Go.Proofs.YtjndknnjboffbaaGreatDoor
