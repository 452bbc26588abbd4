/-
  The document's own SameExpr and Same, over programs of any kind: places don't count.
-/
import Derived.Test.YtkljakeccfnakaaGreatDoorTf
import Derived.Test.YtkljakeccfnakaaGreatDoorHS
import Derived.BigRegion
namespace Go.Proofs.YtkljakeccfnakaaGreatDoor
open Go.RowKit

theorem prL_at : ∀ (l l2 : List Px), prL l = prL l2 ↔ (l.length = l2.length ∧ ∀ (j : Nat) (a b : Px), l[j]? = some a → l2[j]? = some b → pr a = pr b) := by
  intro l
  induction l with
  | nil =>
    intro l2
    cases l2 with
    | nil => simp [prL]
    | cons b r => simp [prL]
  | cons a r ih =>
    intro l2
    cases l2 with
    | nil => simp [prL]
    | cons b q =>
      simp only [prL, List.cons.injEq, List.length_cons, Nat.add_right_cancel_iff, ih q]
      constructor
      · rintro ⟨h1, h2, h3⟩
        refine ⟨h2, fun j c d hc hd => ?_⟩
        cases j with
        | zero => simp only [List.getElem?_cons_zero, Option.some.injEq] at hc hd; subst hc; subst hd; exact h1
        | succ j => simp only [List.getElem?_cons_succ] at hc hd; exact h3 j c d hc hd
      · rintro ⟨h2, h3⟩
        exact ⟨h3 0 a b rfl rfl, h2, fun j c d hc hd => h3 (j + 1) c d (by simpa using hc) (by simpa using hd)⟩
theorem samex_parts (x y : Px) : pr x = pr y ↔ (x.kind = y.kind ∧ x.text = y.text ∧ x.other = y.other ∧ x.n = y.n ∧ x.kids.length = y.kids.length ∧ ∀ (j : Nat) (a b : Px), x.kids[j]? = some a → y.kids[j]? = some b → pr a = pr b) := by
  obtain ⟨k, t, o, n, p, l⟩ := x
  obtain ⟨k2, t2, o2, n2, p2, l2⟩ := y
  simp only [pr, Px.mk.injEq, Px.kind, Px.text, Px.other, Px.n, Px.kids, prL_at, true_and]
noncomputable def yes (p : Prop) : Bool := @decide p (Classical.propDecidable _)
theorem yes_t {p : Prop} (h : p) : yes p = true := @decide_eq_true _ (Classical.propDecidable _) h
theorem yes_f {p : Prop} (h : ¬ p) : yes p = false := @decide_eq_false _ (Classical.propDecidable _) h
theorem yes_iff {p : Prop} : yes p = true ↔ p := ⟨fun h => @of_decide_eq_true _ (Classical.propDecidable _) h, yes_t⟩
theorem yes_not {p : Prop} (h : yes p = false) : ¬ p := fun hp => by rw [yes_t hp] at h; cases h
theorem yes_congr {p q : Prop} (h : p ↔ q) : yes p = yes q := by rw [Bool.eq_iff_iff, yes_iff, yes_iff, h]
noncomputable def sameX6 (x y : Px) : Bool := yes (pr x = pr y)
theorem xstr_ne {s t : List UInt8} (h : ¬ s = t) : ((⟨s.toArray⟩ : ByteArray).toList == (⟨t.toArray⟩ : ByteArray).toList) = false := by
  rw [Lib.toList_data, Lib.toList_data, beq_eq_false_iff_ne]; exact h
theorem xstr_same {s t : List UInt8} (h : s = t) : ((⟨s.toArray⟩ : ByteArray).toList == (⟨t.toArray⟩ : ByteArray).toList) = true := by subst h; simp
theorem xint_ne {a b : Int} (h : ¬ a = b) : (a != b) = true := by rw [bne_iff_ne]; exact h
theorem xint_same {a b : Int} (h : a = b) : (a != b) = false := by rw [h]; simp
theorem xnat_ne {a b : Nat} (h : ¬ a = b) : ((a : Int) != (b : Int)) = true := by rw [ne_nat, decide_eq_false h]; rfl

set_option maxHeartbeats 2000000 in
theorem xsame_kind (kd1 nn1 pp1 kd2 nn2 pp2 : Int) (ln1 cp1 ln2 cp2 : Nat) (tx1 ox1 tx2 ox2 : ByteArray) (a1 a2 : Option Addr) (w : World)  (hkd : (kd1 != kd2) = true) :
    Calls Tryz.prog 38 #[.agg #[.int .i64 kd1, .string tx1, .string ox1, .int .i64 nn1, .int .i64 pp1, .slice a1 ln1 cp1], .agg #[.int .i64 kd2, .string tx2, .string ox2, .int .i64 nn2, .int .i64 pp2, .slice a2 ln2 cp2], .bool false] w fun e w' => e = .returned (.bool false) ∧ Below w.heap.size w w' := by
  go_enter Tryz.func38, Tryz.ntmps38
  go_wp2
  go_ret
  exact ⟨rfl, ba (ba (Below.refl _ _))⟩
set_option maxHeartbeats 2000000 in
theorem xsame_text (kd1 nn1 pp1 kd2 nn2 pp2 : Int) (ln1 cp1 ln2 cp2 : Nat) (tx1 ox1 tx2 ox2 : ByteArray) (a1 a2 : Option Addr) (w : World) (hkd : (kd1 != kd2) = false) (htx : (tx1.toList == tx2.toList) = false) :
    Calls Tryz.prog 38 #[.agg #[.int .i64 kd1, .string tx1, .string ox1, .int .i64 nn1, .int .i64 pp1, .slice a1 ln1 cp1], .agg #[.int .i64 kd2, .string tx2, .string ox2, .int .i64 nn2, .int .i64 pp2, .slice a2 ln2 cp2], .bool false] w fun e w' => e = .returned (.bool false) ∧ Below w.heap.size w w' := by
  go_enter Tryz.func38, Tryz.ntmps38
  go_wp2
  go_ret
  exact ⟨rfl, ba (ba (Below.refl _ _))⟩
set_option maxHeartbeats 2000000 in
theorem xsame_other (kd1 nn1 pp1 kd2 nn2 pp2 : Int) (ln1 cp1 ln2 cp2 : Nat) (tx1 ox1 tx2 ox2 : ByteArray) (a1 a2 : Option Addr) (w : World) (hkd : (kd1 != kd2) = false) (htx : (tx1.toList == tx2.toList) = true) (hox : (ox1.toList == ox2.toList) = false) :
    Calls Tryz.prog 38 #[.agg #[.int .i64 kd1, .string tx1, .string ox1, .int .i64 nn1, .int .i64 pp1, .slice a1 ln1 cp1], .agg #[.int .i64 kd2, .string tx2, .string ox2, .int .i64 nn2, .int .i64 pp2, .slice a2 ln2 cp2], .bool false] w fun e w' => e = .returned (.bool false) ∧ Below w.heap.size w w' := by
  go_enter Tryz.func38, Tryz.ntmps38
  go_wp2
  go_ret
  exact ⟨rfl, ba (ba (Below.refl _ _))⟩
set_option maxHeartbeats 2000000 in
theorem xsame_n (kd1 nn1 pp1 kd2 nn2 pp2 : Int) (ln1 cp1 ln2 cp2 : Nat) (tx1 ox1 tx2 ox2 : ByteArray) (a1 a2 : Option Addr) (w : World) (hkd : (kd1 != kd2) = false) (htx : (tx1.toList == tx2.toList) = true) (hox : (ox1.toList == ox2.toList) = true) (hnn : (nn1 != nn2) = true) :
    Calls Tryz.prog 38 #[.agg #[.int .i64 kd1, .string tx1, .string ox1, .int .i64 nn1, .int .i64 pp1, .slice a1 ln1 cp1], .agg #[.int .i64 kd2, .string tx2, .string ox2, .int .i64 nn2, .int .i64 pp2, .slice a2 ln2 cp2], .bool false] w fun e w' => e = .returned (.bool false) ∧ Below w.heap.size w w' := by
  go_enter Tryz.func38, Tryz.ntmps38
  go_wp2
  go_ret
  exact ⟨rfl, ba (ba (Below.refl _ _))⟩
set_option maxHeartbeats 2000000 in
theorem xsame_len (kd1 nn1 pp1 kd2 nn2 pp2 : Int) (ln1 cp1 ln2 cp2 : Nat) (tx1 ox1 tx2 ox2 : ByteArray) (a1 a2 : Option Addr) (w : World) (hkd : (kd1 != kd2) = false) (htx : (tx1.toList == tx2.toList) = true) (hox : (ox1.toList == ox2.toList) = true) (hnn : (nn1 != nn2) = false) (hln : ((ln1 : Int) != (ln2 : Int)) = true) :
    Calls Tryz.prog 38 #[.agg #[.int .i64 kd1, .string tx1, .string ox1, .int .i64 nn1, .int .i64 pp1, .slice a1 ln1 cp1], .agg #[.int .i64 kd2, .string tx2, .string ox2, .int .i64 nn2, .int .i64 pp2, .slice a2 ln2 cp2], .bool false] w fun e w' => e = .returned (.bool false) ∧ Below w.heap.size w w' := by
  go_enter Tryz.func38, Tryz.ntmps38
  go_wp2
  go_ret
  exact ⟨rfl, ba (ba (Below.refl _ _))⟩
set_option maxHeartbeats 2000000 in
theorem xsame_nil (kd nn pp pp2 : Int) (cp1 cp2 : Nat) (tx ox : ByteArray) (a1 a2 : Option Addr) (w : World) :
    Calls Tryz.prog 38 #[.agg #[.int .i64 kd, .string tx, .string ox, .int .i64 nn, .int .i64 pp, .slice a1 0 cp1], .agg #[.int .i64 kd, .string tx, .string ox, .int .i64 nn, .int .i64 pp2, .slice a2 0 cp2], .bool false] w fun e w' => e = .returned (.bool true) ∧ Below w.heap.size w w' := by
  have zk : (kd != kd) = false := by simp
  have zn : (nn != nn) = false := by simp
  have zt : (tx.toList == tx.toList) = true := by simp
  have zo : (ox.toList == ox.toList) = true := by simp
  go_enter Tryz.func38, Tryz.ntmps38
  go_wp2
  go_loopw [7] (fun t wr => t = .int .i64 0 ∧ Below w.heap.size w wr ∧ wr.cell? ⟨w.heap.size, 5, none⟩ = some (.slice a1 0 cp1)) (fun _ _ => 0)
  case atStart => exact ⟨rfl, ba (ba (Below.refl _ _)), by go_simp⟩
  case round =>
    obtain ⟨rfl, hb, c5⟩ := hrel
    go_wp2_with fail
    go_ret
    exact ⟨rfl, hb⟩
/-- The kids of two expressions, one by one. -/
def KidsX (x y : Px) : Prop := ∀ (j : Nat) (a b : Px), x.kids[j]? = some a → y.kids[j]? = some b → pr a = pr b

set_option maxHeartbeats 8000000 in
theorem xsame_loop (x y : Px) (h1 h2 : Nat) (w : World) (b1 o1 cp1 b2 o2 cp2 : Nat) (kd nn pp pp2 : Int) (tx ox : ByteArray) (n : Nat) (hn : x.kids.length = n) (hn2 : y.kids.length = n) (hm : n ≤ 140737488351232)
    (K : Hid (∀ (j : Nat) (p q : Px) (u v : Value) (W : World), x.kids[j]? = some p → y.kids[j]? = some q → Below w.heap.size w W → PxV h1 w u p → PxV h2 w v q → Calls Tryz.prog 38 #[u, v, .bool false] W fun e w' => e = .returned (.bool (sameX6 p q)) ∧ Below W.heap.size W w'))
    (R : Hid (Row h1 w b1 o1 x.kids ∧ Row h2 w b2 o2 y.kids)) (hh : h1 ≤ w.heap.size ∧ h2 ≤ w.heap.size) :
    Calls Tryz.prog 38 #[.agg #[.int .i64 kd, .string tx, .string ox, .int .i64 nn, .int .i64 pp, .slice (some ⟨b1, o1, none⟩) n cp1], .agg #[.int .i64 kd, .string tx, .string ox, .int .i64 nn, .int .i64 pp2, .slice (some ⟨b2, o2, none⟩) n cp2], .bool false] w fun e w' => e = .returned (.bool (yes (KidsX x y))) ∧ Below w.heap.size w w' := by
  have HN : Hid (x.kids.length = n ∧ y.kids.length = n) := ⟨hn, hn2⟩
  clear hn hn2
  have zz : ((n : Int) != (n : Int)) = false := by simp
  have zk : (kd != kd) = false := by simp
  have zn : (nn != nn) = false := by simp
  have zt : (tx.toList == tx.toList) = true := by simp
  have zo : (ox.toList == ox.toList) = true := by simp
  have l1 : b1 < w.heap.size := Nat.lt_of_lt_of_le R.out.1.1 hh.1
  have l2 : b2 < w.heap.size := Nat.lt_of_lt_of_le R.out.2.1 hh.2
  clear hh
  go_enter Tryz.func38, Tryz.ntmps38
  go_wp2
  go_loopw [7] (fun t wr => ∃ (i : Nat), i ≤ n ∧ t = .int .i64 i ∧ Hid (∀ (j : Nat) (a b : Px), j < i → x.kids[j]? = some a → y.kids[j]? = some b → pr a = pr b) ∧ Below w.heap.size w wr ∧ wr.cell? ⟨w.heap.size, 5, none⟩ = some (.slice (some ⟨b1, o1, none⟩) n cp1) ∧ wr.cell? ⟨w.heap.size + 1, 5, none⟩ = some (.slice (some ⟨b2, o2, none⟩) n cp2)) (fun t _ => n - (intOf t).toNat)
  case atStart => exact ⟨0, Nat.zero_le _, rfl, fun j a b hj => by omega, ba (ba (Below.refl _ _)), by go_simp, by go_simp⟩
  case round =>
    obtain ⟨i, hi, rfl, hs, hb, c5, d5⟩ := hrel
    by_cases c : i < n
    · have c' : (i : Int) < (n : Int) := by omega
      obtain ⟨p, hp⟩ : ∃ p, x.kids[i]? = some p := ⟨_, List.getElem?_eq_getElem (by have := HN.out.1; omega)⟩
      obtain ⟨q, hq⟩ : ∃ q, y.kids[i]? = some q := ⟨_, List.getElem?_eq_getElem (by have := HN.out.2; omega)⟩
      obtain ⟨a3, cp3, ⟨k0, k1, k2, k3, k4, k5⟩, hx3⟩ := R.out.1.2 i p hp
      obtain ⟨a4, cp4, ⟨m0, m1, m2, m3, m4, m5⟩, hx4⟩ := R.out.2.2 i q hq
      have HC : Hid (∀ W : World, Below w.heap.size w W → Calls Tryz.prog 38 #[.agg #[.int .i64 p.kind, .string ⟨p.text.toArray⟩, .string ⟨p.other.toArray⟩, .int .i64 p.n, .int .i64 p.pl, .slice a3 p.kids.length cp3], .agg #[.int .i64 q.kind, .string ⟨q.text.toArray⟩, .string ⟨q.other.toArray⟩, .int .i64 q.n, .int .i64 q.pl, .slice a4 q.kids.length cp4], .bool false] W fun e w' => e = .returned (.bool (sameX6 p q)) ∧ Below W.heap.size W w') := fun W hW => K.out i p q _ _ W hp hq hW hx3 hx4
      have HPQ : Hid (x.kids[i]? = some p ∧ y.kids[i]? = some q) := ⟨hp, hq⟩
      clear hx3 hx4 hp hq
      generalize p.kids.length = ln3 at *
      generalize q.kids.length = ln4 at *
      have g1 := Nat.lt_of_lt_of_le l1 hb.size
      have g2 := Nat.lt_of_lt_of_le l2 hb.size
      have L0 := later_cell (W := wr) (a := ⟨b1, o1 + i * 6, none⟩) g1 ((hb.cell (p := ⟨b1, o1 + i * 6, none⟩) l1).trans k0)
      have M0 := later_cell (W := wr) (a := ⟨b2, o2 + i * 6, none⟩) g2 ((hb.cell (p := ⟨b2, o2 + i * 6, none⟩) l2).trans m0)
      have L1 := later_cell (W := wr) (a := ⟨b1, o1 + i * 6 + 1, none⟩) g1 ((hb.cell (p := ⟨b1, o1 + i * 6 + 1, none⟩) l1).trans k1)
      have M1 := later_cell (W := wr) (a := ⟨b2, o2 + i * 6 + 1, none⟩) g2 ((hb.cell (p := ⟨b2, o2 + i * 6 + 1, none⟩) l2).trans m1)
      have L2 := later_cell (W := wr) (a := ⟨b1, o1 + i * 6 + 2, none⟩) g1 ((hb.cell (p := ⟨b1, o1 + i * 6 + 2, none⟩) l1).trans k2)
      have M2 := later_cell (W := wr) (a := ⟨b2, o2 + i * 6 + 2, none⟩) g2 ((hb.cell (p := ⟨b2, o2 + i * 6 + 2, none⟩) l2).trans m2)
      have L3 := later_cell (W := wr) (a := ⟨b1, o1 + i * 6 + 3, none⟩) g1 ((hb.cell (p := ⟨b1, o1 + i * 6 + 3, none⟩) l1).trans k3)
      have M3 := later_cell (W := wr) (a := ⟨b2, o2 + i * 6 + 3, none⟩) g2 ((hb.cell (p := ⟨b2, o2 + i * 6 + 3, none⟩) l2).trans m3)
      have L4 := later_cell (W := wr) (a := ⟨b1, o1 + i * 6 + 4, none⟩) g1 ((hb.cell (p := ⟨b1, o1 + i * 6 + 4, none⟩) l1).trans k4)
      have M4 := later_cell (W := wr) (a := ⟨b2, o2 + i * 6 + 4, none⟩) g2 ((hb.cell (p := ⟨b2, o2 + i * 6 + 4, none⟩) l2).trans m4)
      have L5 := later_cell (W := wr) (a := ⟨b1, o1 + i * 6 + 5, none⟩) g1 ((hb.cell (p := ⟨b1, o1 + i * 6 + 5, none⟩) l1).trans k5)
      have M5 := later_cell (W := wr) (a := ⟨b2, o2 + i * 6 + 5, none⟩) g2 ((hb.cell (p := ⟨b2, o2 + i * 6 + 5, none⟩) l2).trans m5)
      have X5 := later_cell (W := wr) (a := ⟨w.heap.size, 5, none⟩) (lt_cell c5) c5
      have Y5 := later_cell (W := wr) (a := ⟨w.heap.size + 1, 5, none⟩) (lt_cell d5) d5
      have ne : Nonempty (Later wr) := ⟨⟨wr, Below.refl _ _⟩⟩
      have BW : Hid (Below w.heap.size w wr) := hb
      clear k0 k1 k2 k3 k4 k5 m0 m1 m2 m3 m4 m5
      cases hr : sameX6 p q
      · rw [hr] at HC
        have N : Hid (yes (KidsX x y) = false) := yes_f fun h => yes_not hr (h i p q HPQ.out.1 HPQ.out.2)
        clear hr
        go_wp2_with fail
        refine wp_region_later (by kernel_rfl) (by kernel_rfl) ?_
        repeat (go_big_quiet_step ((go_at_call 38; exact calls_later (HC.out _ (bl2 BW.out (Later.h _))))))
        refine wpQuiet_nil ?_
        rintro wq ⟨⟨wv, hwq⟩, hE⟩; obtain rfl : wq = wv := hE
        clear L0 L1 L2 L3 L4 L5 M0 M1 M2 M3 M4 M5 X5 Y5 ne
        go_wp2_with fail
        go_ret
        exact ⟨ret_bool (by rw [N.out]), bl2 BW.out hwq⟩
      · rw [hr] at HC
        have SS : Hid (pr p = pr q) := yes_iff.1 hr
        clear hr
        go_wp2_with fail
        refine wp_region_later (by kernel_rfl) (by kernel_rfl) ?_
        repeat (go_big_quiet_step ((go_at_call 38; exact calls_later (HC.out _ (bl2 BW.out (Later.h _))))))
        refine wpQuiet_nil ?_
        rintro wq ⟨⟨wv, hwq⟩, hE⟩; obtain rfl : wq = wv := hE
        have z5 := X5 ⟨wq, hwq⟩
        have w5 := Y5 ⟨wq, hwq⟩
        clear L0 L1 L2 L3 L4 L5 M0 M1 M2 M3 M4 M5 X5 Y5 ne
        go_wp2_with fail
        go_roundw
        case rel =>
          refine ⟨i + 1, by omega, by go_num, fun j a b hj ha hb' => ?_, bl2 BW.out hwq, z5, w5⟩
          by_cases e : j = i
          · subst e
            rw [HPQ.out.1] at ha; rw [HPQ.out.2] at hb'
            obtain rfl := Option.some.inj ha; obtain rfl := Option.some.inj hb'
            exact SS.out
          · exact hs.out j a b (by omega) ha hb'
        case measure => simp [intOf]; omega
    · have c' : ¬ (i : Int) < (n : Int) := by omega
      go_wp2_with fail
      go_ret
      exact ⟨ret_bool (yes_t (show KidsX x y from fun j a b ha hb' => hs.out j a b (by have := (List.getElem?_eq_some_iff.1 ha).1; have := HN.out.1; omega) ha hb')).symm, hb⟩
/-- The document's own SameExpr tells whether two expressions are the same but for places. -/
theorem xsame_any (N : Nat) : ∀ (x y : Px) (u v : Value) (h1 h2 : Nat) (w : World), szX x ≤ N → h1 ≤ w.heap.size → h2 ≤ w.heap.size → PxV h1 w u x → PxV h2 w v y →
    Calls Tryz.prog 38 #[u, v, .bool false] w fun e w' => e = .returned (.bool (sameX6 x y)) ∧ Below w.heap.size w w' := by
  induction N with
  | zero => intro x y u v h1 h2 w h; have := szX_pos x; omega
  | succ N ih =>
    intro x y u v h1 h2 w hN l1 l2 hx hy
    obtain ⟨a1, cp1, rfl, hcap1, hlen1, r1⟩ := hx.row
    obtain ⟨a2, cp2, rfl, _, _, r2⟩ := hy.row
    unfold pv
    have sp := samex_parts x y
    by_cases e1 : x.kind = y.kind
    case neg => rw [show sameX6 x y = false from yes_f (fun h => e1 (sp.1 h).1)]; exact xsame_kind _ _ _ _ _ _ _ _ _ _ _ _ _ _ _ _ w (xint_ne e1)
    by_cases e2 : x.text = y.text
    case neg => rw [show sameX6 x y = false from yes_f (fun h => e2 (sp.1 h).2.1)]; exact xsame_text _ _ _ _ _ _ _ _ _ _ _ _ _ _ _ _ w (xint_same e1) (xstr_ne e2)
    by_cases e3 : x.other = y.other
    case neg => rw [show sameX6 x y = false from yes_f (fun h => e3 (sp.1 h).2.2.1)]; exact xsame_other _ _ _ _ _ _ _ _ _ _ _ _ _ _ _ _ w (xint_same e1) (xstr_same e2) (xstr_ne e3)
    by_cases e4 : x.n = y.n
    case neg => rw [show sameX6 x y = false from yes_f (fun h => e4 (sp.1 h).2.2.2.1)]; exact xsame_n _ _ _ _ _ _ _ _ _ _ _ _ _ _ _ _ w (xint_same e1) (xstr_same e2) (xstr_same e3) (xint_ne e4)
    by_cases e6 : x.kids.length = y.kids.length
    case neg => rw [show sameX6 x y = false from yes_f (fun h => e6 (sp.1 h).2.2.2.2.1)]; exact xsame_len _ _ _ _ _ _ _ _ _ _ _ _ _ _ _ _ w (xint_same e1) (xstr_same e2) (xstr_same e3) (xint_same e4) (xnat_ne e6)
    have kb : sameX6 x y = yes (KidsX x y) := yes_congr (sp.trans ⟨fun h => h.2.2.2.2.2, fun h => ⟨e1, e2, e3, e4, e6, h⟩⟩)
    rw [kb]
    by_cases h0 : x.kids = []
    · have hl : x.kids.length = 0 := by rw [h0]; rfl
      have hk : yes (KidsX x y) = true := yes_t fun j a b ha => by rw [h0] at ha; simp at ha
      rw [hk, hl, ← e6, hl, ← e1, ← e2, ← e3, ← e4]
      exact xsame_nil _ _ _ _ cp1 cp2 _ _ a1 a2 w
    · have h0' : y.kids ≠ [] := fun e => h0 (List.eq_nil_of_length_eq_zero (by rw [e6, e]; rfl))
      obtain ⟨b1, o1, q1, r1⟩ := r1.resolve_left h0
      obtain ⟨b2, o2, q2, r2⟩ := r2.resolve_left h0'
      rw [q1, q2, ← e6, ← e1, ← e2, ← e3, ← e4]
      refine xsame_loop x y h1 h2 w b1 o1 cp1 b2 o2 cp2 _ _ _ _ _ _ _ rfl e6.symm hlen1 (fun j p q u v W hp hq hW hu hv => ?_) ⟨r1, r2⟩ ⟨l1, l2⟩
      have hs := szXL_mem _ j p hp
      exact ih p q u v h1 h2 W (by cases x; simp only [szX, Px.kids] at *; omega) (Nat.le_trans l1 hW.size) (Nat.le_trans l2 hW.size) (hu.keep (hW.mono l1)) (hv.keep (hW.mono l2))
end Go.Proofs.YtkljakeccfnakaaGreatDoor
