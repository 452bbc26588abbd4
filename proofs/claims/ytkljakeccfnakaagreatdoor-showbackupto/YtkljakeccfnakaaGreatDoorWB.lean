/-
  The document's own Same of two programs, places aside.
-/
import Derived.Test.YtkljakeccfnakaaGreatDoorWA
namespace Go.Proofs.YtkljakeccfnakaaGreatDoor
open Go.RowKit

def DlEq (d g : Dl) : Prop := d.kind = g.kind ∧ d.name = g.name ∧ d.n = g.n
/-- Two programs are the same but for places. -/
structure SameP (ds fs : List Dl) (es gs : List Px) : Prop where
  dl : ds.length = fs.length
  el : es.length = gs.length
  d : ∀ (j : Nat) (a b : Dl), ds[j]? = some a → fs[j]? = some b → DlEq a b
  e : ∀ (j : Nat) (a b : Px), es[j]? = some a → gs[j]? = some b → pr a = pr b
/-- Two programs in one memory. -/
structure Two (h1 h2 : Nat) (w : World) (a1 a2 e1 e2 : Option Addr) (ds fs : List Dl) (es gs : List Px) : Prop where
  d1 : ds = [] ∨ ∃ b off, a1 = some ⟨b, off, none⟩ ∧ DRow h1 w b off ds
  d2 : fs = [] ∨ ∃ b off, a2 = some ⟨b, off, none⟩ ∧ DRow h2 w b off fs
  x1 : es = [] ∨ ∃ b off, e1 = some ⟨b, off, none⟩ ∧ Row h1 w b off es
  x2 : gs = [] ∨ ∃ b off, e2 = some ⟨b, off, none⟩ ∧ Row h2 w b off gs
  l1 : h1 ≤ w.heap.size
  l2 : h2 ≤ w.heap.size
set_option maxHeartbeats 2000000 in
theorem same2_len (a1 a2 e1 e2 : Option Addr) (n1 c1 m1 f1 n2 c2 m2 f2 : Nat) (w : World) (h : n1 ≠ n2 ∨ m1 ≠ m2) :
    Calls Tryz.prog 16 #[.agg #[.slice a1 n1 c1, .slice e1 m1 f1], .agg #[.slice a2 n2 c2, .slice e2 m2 f2], .bool false] w fun e w' => e = .returned (.bool false) ∧ Below w.heap.size w w' := by
  by_cases q : n1 = n2
  · have z1 : ((n1 : Int) != (n2 : Int)) = false := by rw [q]; simp
    have z2 := xnat_ne (h.resolve_left fun hn => hn q)
    clear h q
    go_enter Tryz.func16, Tryz.ntmps16
    go_wp2
    go_ret
    exact ⟨rfl, ba (ba (Below.refl _ _))⟩
  · have z1 := xnat_ne q
    clear h q
    go_enter Tryz.func16, Tryz.ntmps16
    go_wp2
    go_ret
    exact ⟨rfl, ba (ba (Below.refl _ _))⟩
set_option maxHeartbeats 16000000 in
theorem same2_walk (ds fs : List Dl) (es gs : List Px) (h1 h2 : Nat) (w : World) (a1 a2 e1 e2 : Option Addr) (n c1 c2 m f1 f2 : Nat) (hn : ds.length = n ∧ fs.length = n) (hm : es.length = m ∧ gs.length = m) (n9 : n ≤ 140737488351232) (m9 : m ≤ 140737488351232) (T : Hid (Two h1 h2 w a1 a2 e1 e2 ds fs es gs)) :
    Calls Tryz.prog 16 #[.agg #[.slice a1 n c1, .slice e1 m f1], .agg #[.slice a2 n c2, .slice e2 m f2], .bool false] w fun e w' => e = .returned (.bool (yes (SameP ds fs es gs))) ∧ Below w.heap.size w w' := by
  have HN := Hid.intro hn
  have HM := Hid.intro hm
  clear hn hm
  have zn : ((n : Int) != (n : Int)) = false := by simp
  have zm : ((m : Int) != (m : Int)) = false := by simp
  go_enter Tryz.func16, Tryz.ntmps16
  go_wp2
  go_loopw [7] (fun t wr => ∃ (i : Nat), i ≤ n ∧ t = .int .i64 i ∧ Hid (∀ (j : Nat) (a b : Dl), j < i → ds[j]? = some a → fs[j]? = some b → DlEq a b) ∧ Below w.heap.size w wr ∧ wr.cell? ⟨w.heap.size, 0, none⟩ = some (.slice a1 n c1) ∧ wr.cell? ⟨w.heap.size, 1, none⟩ = some (.slice e1 m f1) ∧ wr.cell? ⟨w.heap.size + 1, 0, none⟩ = some (.slice a2 n c2) ∧ wr.cell? ⟨w.heap.size + 1, 1, none⟩ = some (.slice e2 m f2)) (fun t _ => n - (intOf t).toNat)
  case atStart => exact ⟨0, Nat.zero_le _, rfl, fun j a b hj => by omega, ba (ba (Below.refl _ _)), by go_simp, by go_simp, by go_simp, by go_simp⟩
  case round =>
    obtain ⟨i, hi, rfl, hs, hb, x0, x1, y0, y1⟩ := hrel
    by_cases c : i < n
    · have c' : (i : Int) < (n : Int) := by omega
      obtain ⟨p, hp⟩ : ∃ p, ds[i]? = some p := ⟨_, List.getElem?_eq_getElem (by have := HN.out.1; omega)⟩
      obtain ⟨q, hq⟩ : ∃ q, fs[i]? = some q := ⟨_, List.getElem?_eq_getElem (by have := HN.out.2; omega)⟩
      obtain ⟨b1, o1, rfl, l1, R1⟩ := T.out.d1.resolve_left (fun e => by rw [e] at hp; simp at hp)
      obtain ⟨b2, o2, rfl, l2, R2⟩ := T.out.d2.resolve_left (fun e => by rw [e] at hq; simp at hq)
      have l1 := Nat.lt_of_lt_of_le l1 T.out.l1
      have l2 := Nat.lt_of_lt_of_le l2 T.out.l2
      obtain ⟨k0, k1, k2, k3⟩ := R1 i p hp
      obtain ⟨m0, m1, m2, m3⟩ := R2 i q hq
      have HPQ : Hid (ds[i]? = some p ∧ fs[i]? = some q) := ⟨hp, hq⟩
      have K0 := (hb.cell (p := ⟨b1, o1 + i * 4, none⟩) l1).trans k0
      have M0 := (hb.cell (p := ⟨b2, o2 + i * 4, none⟩) l2).trans m0
      have K1 := (hb.cell (p := ⟨b1, o1 + i * 4 + 1, none⟩) l1).trans k1
      have M1 := (hb.cell (p := ⟨b2, o2 + i * 4 + 1, none⟩) l2).trans m1
      have K2 := (hb.cell (p := ⟨b1, o1 + i * 4 + 2, none⟩) l1).trans k2
      have M2 := (hb.cell (p := ⟨b2, o2 + i * 4 + 2, none⟩) l2).trans m2
      have K3 := (hb.cell (p := ⟨b1, o1 + i * 4 + 3, none⟩) l1).trans k3
      have M3 := (hb.cell (p := ⟨b2, o2 + i * 4 + 3, none⟩) l2).trans m3
      have HB : Hid (Below w.heap.size w wr) := hb
      have u0 := lt_cell x0
      have u1 := lt_cell y0
      have g1 : b1 < wr.heap.size := Nat.lt_of_lt_of_le l1 hb.size
      have g2 : b2 < wr.heap.size := Nat.lt_of_lt_of_le l2 hb.size
      clear k0 k1 k2 k3 m0 m1 m2 m3 l1 l2 hb hp hq R1 R2
      have d0 : b1 ≠ wr.heap.size := by omega
      have d1 : wr.heap.size ≠ b1 := by omega
      have d2 : b1 ≠ (wr.heap.size + 1) := by omega
      have d3 : (wr.heap.size + 1) ≠ b1 := by omega
      have t4 : b1 < wr.heap.size + 1 := by omega
      have d4 : b2 ≠ wr.heap.size := by omega
      have d5 : wr.heap.size ≠ b2 := by omega
      have d6 : b2 ≠ (wr.heap.size + 1) := by omega
      have d7 : (wr.heap.size + 1) ≠ b2 := by omega
      have t8 : b2 < wr.heap.size + 1 := by omega
      have d8 : w.heap.size ≠ wr.heap.size := by omega
      have d9 : wr.heap.size ≠ w.heap.size := by omega
      have d10 : w.heap.size ≠ (wr.heap.size + 1) := by omega
      have d11 : (wr.heap.size + 1) ≠ w.heap.size := by omega
      have t12 : w.heap.size < wr.heap.size + 1 := by omega
      have d12 : (w.heap.size + 1) ≠ wr.heap.size := by omega
      have d13 : wr.heap.size ≠ (w.heap.size + 1) := by omega
      have d14 : (w.heap.size + 1) ≠ (wr.heap.size + 1) := by omega
      have d15 : (wr.heap.size + 1) ≠ (w.heap.size + 1) := by omega
      have t16 : (w.heap.size + 1) < wr.heap.size + 1 := by omega
      by_cases q1 : p.kind = q.kind
      case neg =>
        have NO : Hid (yes (SameP ds fs es gs) = false) := yes_f fun h => by have := h.d i p q HPQ.out.1 HPQ.out.2; exact q1 this.1
        have zk := xint_ne q1
        clear q1
        go_wp2_with fail
        go_region
        all_goals
          simp only [Exit.then]
          go_wp2_with fail
          go_ret
          exact ⟨ret_bool NO.out.symm, Below.drew (ba (ba HB.out))⟩
      have zk := xint_same q1
      by_cases q2 : p.name = q.name
      case neg =>
        have NO : Hid (yes (SameP ds fs es gs) = false) := yes_f fun h => by have := h.d i p q HPQ.out.1 HPQ.out.2; exact q2 this.2.1
        have zt := xstr_ne q2
        have zt2 : ((⟨p.name.toArray⟩ : ByteArray).toList != (⟨q.name.toArray⟩ : ByteArray).toList) = true := by rw [bne, zt]; rfl
        have zt3 : ¬ (⟨p.name.toArray⟩ : ByteArray).toList = (⟨q.name.toArray⟩ : ByteArray).toList := fun h => by rw [h] at zt; simp at zt
        clear q1
        go_wp2_with fail
        go_region
        all_goals
          simp only [Exit.then]
          go_wp2_with fail
          go_ret
          exact ⟨ret_bool NO.out.symm, Below.drew (ba (ba HB.out))⟩
      have zt := xstr_same q2
      have zt2 : ((⟨p.name.toArray⟩ : ByteArray).toList != (⟨q.name.toArray⟩ : ByteArray).toList) = false := by rw [bne, zt]; rfl
      by_cases q3 : p.n = q.n
      case neg =>
        have NO : Hid (yes (SameP ds fs es gs) = false) := yes_f fun h => by have := h.d i p q HPQ.out.1 HPQ.out.2; exact q3 this.2.2
        have zw := xint_ne q3
        clear q1
        go_wp2_with fail
        go_region
        all_goals
          simp only [Exit.then]
          go_wp2_with fail
          go_ret
          exact ⟨ret_bool NO.out.symm, Below.drew (ba (ba HB.out))⟩
      have zw := xint_same q3
      have YES : Hid (DlEq p q) := ⟨q1, q2, q3⟩
      clear q1 q3
      go_wp2_with fail
      go_region
      all_goals
        simp only [Exit.then]
        go_wp2_with fail
        go_roundw
        case rel =>
          refine ⟨i + 1, by omega, by go_num, fun j a b hj ha hb' => ?_, Below.drew (ba (ba HB.out)), by go_simp, by go_simp, by go_simp, by go_simp⟩
          by_cases e : j = i
          · subst e
            rw [HPQ.out.1] at ha; rw [HPQ.out.2] at hb'
            obtain rfl := Option.some.inj ha; obtain rfl := Option.some.inj hb'
            exact YES.out
          · exact hs.out j a b (by omega) ha hb'
        case measure => simp [intOf]; omega
    · have c' : ¬ (i : Int) < (n : Int) := by omega
      have DD : Hid (∀ (j : Nat) (a b : Dl), ds[j]? = some a → fs[j]? = some b → DlEq a b) := fun j a b ha hb' => hs.out j a b (by have := (List.getElem?_eq_some_iff.1 ha).1; have := HN.out.1; omega) ha hb'
      go_wp2_with fail
      go_loopw [10] (fun t wr => ∃ (i : Nat), i ≤ m ∧ t = .int .i64 i ∧ Hid (∀ (j : Nat) (a b : Px), j < i → es[j]? = some a → gs[j]? = some b → pr a = pr b) ∧ Below w.heap.size w wr ∧ wr.cell? ⟨w.heap.size, 1, none⟩ = some (.slice e1 m f1) ∧ wr.cell? ⟨w.heap.size + 1, 1, none⟩ = some (.slice e2 m f2)) (fun t _ => m - (intOf t).toNat)
      case atStart => exact ⟨0, Nat.zero_le _, rfl, fun j a b hj => by omega, hb, x1, y1⟩
      clear hb x0 y0 x1 y1 hi c c' hs
      case round =>
        obtain ⟨i, hi, rfl, hs, hb, x1, y1⟩ := hrel
        by_cases c : i < m
        · have c' : (i : Int) < (m : Int) := by omega
          obtain ⟨p, hp⟩ : ∃ p, es[i]? = some p := ⟨_, List.getElem?_eq_getElem (by have := HM.out.1; omega)⟩
          obtain ⟨q, hq⟩ : ∃ q, gs[i]? = some q := ⟨_, List.getElem?_eq_getElem (by have := HM.out.2; omega)⟩
          obtain ⟨b1, o1, rfl, l1, R1⟩ := T.out.x1.resolve_left (fun e => by rw [e] at hp; simp at hp)
          obtain ⟨b2, o2, rfl, l2, R2⟩ := T.out.x2.resolve_left (fun e => by rw [e] at hq; simp at hq)
          have l1 := Nat.lt_of_lt_of_le l1 T.out.l1
          have l2 := Nat.lt_of_lt_of_le l2 T.out.l2
          obtain ⟨a3, cp3, ⟨k0, k1, k2, k3, k4, k5⟩, hx3⟩ := R1 i p hp
          obtain ⟨a4, cp4, ⟨m0, m1, m2, m3, m4, m5⟩, hx4⟩ := R2 i q hq
          have HC : Hid (∀ W : World, Below w.heap.size w W → Calls Tryz.prog 38 #[.agg #[.int .i64 p.kind, .string ⟨p.text.toArray⟩, .string ⟨p.other.toArray⟩, .int .i64 p.n, .int .i64 p.pl, .slice a3 p.kids.length cp3], .agg #[.int .i64 q.kind, .string ⟨q.text.toArray⟩, .string ⟨q.other.toArray⟩, .int .i64 q.n, .int .i64 q.pl, .slice a4 q.kids.length cp4], .bool false] W fun e w' => e = .returned (.bool (sameX6 p q)) ∧ Below W.heap.size W w') := fun W hW => xsame_any _ p q _ _ h1 h2 W (Nat.le_refl _) (Nat.le_trans T.out.l1 hW.size) (Nat.le_trans T.out.l2 hW.size) (hx3.keep (hW.mono T.out.l1)) (hx4.keep (hW.mono T.out.l2))
          have HPQ : Hid (es[i]? = some p ∧ gs[i]? = some q) := ⟨hp, hq⟩
          clear hx3 hx4 hp hq R1 R2
          generalize p.kids.length = ln3 at *
          generalize q.kids.length = ln4 at *
          have g1 := Nat.lt_of_lt_of_le l1 hb.size
          have g2 := Nat.lt_of_lt_of_le l2 hb.size
          have L0 := later_cell (W := wr) (a := ⟨b1, o1 + i * 6, none⟩) g1 ((hb.cell (p := ⟨b1, o1 + i * 6, none⟩) l1).trans k0)
          have M0 := later_cell (W := wr) (a := ⟨b2, o2 + i * 6, none⟩) g2 ((hb.cell (p := ⟨b2, o2 + i * 6, none⟩) l2).trans m0)
          have L1 := later_cell (W := wr) (a := ⟨b1, o1 + i * 6 + 1, none⟩) g1 ((hb.cell (p := ⟨b1, o1 + i * 6 + 1, none⟩) l1).trans k1)
          have M1 := later_cell (W := wr) (a := ⟨b2, o2 + i * 6 + 1, none⟩) g2 ((hb.cell (p := ⟨b2, o2 + i * 6 + 1, none⟩) l2).trans m1)
          have L2 := later_cell (W := wr) (a := ⟨b1, o1 + i * 6 + 2, none⟩) g1 ((hb.cell (p := ⟨b1, o1 + i * 6 + 2, none⟩) l1).trans k2)
          have M2 := later_cell (W := wr) (a := ⟨b2, o2 + i * 6 + 2, none⟩) g2 ((hb.cell (p := ⟨b2, o2 + i * 6 + 2, none⟩) l2).trans m2)
          have L3 := later_cell (W := wr) (a := ⟨b1, o1 + i * 6 + 3, none⟩) g1 ((hb.cell (p := ⟨b1, o1 + i * 6 + 3, none⟩) l1).trans k3)
          have M3 := later_cell (W := wr) (a := ⟨b2, o2 + i * 6 + 3, none⟩) g2 ((hb.cell (p := ⟨b2, o2 + i * 6 + 3, none⟩) l2).trans m3)
          have L4 := later_cell (W := wr) (a := ⟨b1, o1 + i * 6 + 4, none⟩) g1 ((hb.cell (p := ⟨b1, o1 + i * 6 + 4, none⟩) l1).trans k4)
          have M4 := later_cell (W := wr) (a := ⟨b2, o2 + i * 6 + 4, none⟩) g2 ((hb.cell (p := ⟨b2, o2 + i * 6 + 4, none⟩) l2).trans m4)
          have L5 := later_cell (W := wr) (a := ⟨b1, o1 + i * 6 + 5, none⟩) g1 ((hb.cell (p := ⟨b1, o1 + i * 6 + 5, none⟩) l1).trans k5)
          have M5 := later_cell (W := wr) (a := ⟨b2, o2 + i * 6 + 5, none⟩) g2 ((hb.cell (p := ⟨b2, o2 + i * 6 + 5, none⟩) l2).trans m5)
          have X5 := later_cell (W := wr) (a := ⟨w.heap.size, 1, none⟩) (lt_cell x1) x1
          have Y5 := later_cell (W := wr) (a := ⟨w.heap.size + 1, 1, none⟩) (lt_cell y1) y1
          have ne : Nonempty (Later wr) := ⟨⟨wr, Below.refl _ _⟩⟩
          have BW : Hid (Below w.heap.size w wr) := hb
          clear k0 k1 k2 k3 k4 k5 m0 m1 m2 m3 m4 m5
          cases hr : sameX6 p q
          · rw [hr] at HC
            have NO : Hid (yes (SameP ds fs es gs) = false) := yes_f fun h => yes_not hr (h.e i p q HPQ.out.1 HPQ.out.2)
            clear hr
            go_wp2_with fail
            refine wp_region_later (by kernel_rfl) (by kernel_rfl) ?_
            repeat (go_big_quiet_step ((go_at_call 38; exact calls_later (HC.out _ (bl2 BW.out (Later.h _))))))
            refine wpQuiet_nil ?_
            rintro wq ⟨⟨wv, hwq⟩, hE⟩; obtain rfl : wq = wv := hE
            clear L0 L1 L2 L3 L4 L5 M0 M1 M2 M3 M4 M5 X5 Y5 ne
            simp only [Exit.then]
            go_wp2_with fail
            go_ret
            exact ⟨ret_bool NO.out.symm, bl2 BW.out hwq⟩
          · rw [hr] at HC
            have SS : Hid (pr p = pr q) := yes_iff.1 hr
            clear hr
            go_wp2_with fail
            refine wp_region_later (by kernel_rfl) (by kernel_rfl) ?_
            repeat (go_big_quiet_step ((go_at_call 38; exact calls_later (HC.out _ (bl2 BW.out (Later.h _))))))
            refine wpQuiet_nil ?_
            rintro wq ⟨⟨wv, hwq⟩, hE⟩; obtain rfl : wq = wv := hE
            have x1' := (hwq.cell (p := ⟨w.heap.size, 1, none⟩) (lt_cell x1)).trans x1
            have y1' := (hwq.cell (p := ⟨w.heap.size + 1, 1, none⟩) (lt_cell y1)).trans y1
            clear L0 L1 L2 L3 L4 L5 M0 M1 M2 M3 M4 M5 X5 Y5 ne
            simp only [Exit.then]
            go_wp2_with fail
            go_roundw
            case rel =>
              refine ⟨i + 1, by omega, by go_num, fun j a b hj ha hb' => ?_, bl2 BW.out hwq, x1', y1'⟩
              by_cases e : j = i
              · subst e
                rw [HPQ.out.1] at ha; rw [HPQ.out.2] at hb'
                obtain rfl := Option.some.inj ha; obtain rfl := Option.some.inj hb'
                exact SS.out
              · exact hs.out j a b (by omega) ha hb'
            case measure => simp [intOf]; omega
        · have c' : ¬ (i : Int) < (m : Int) := by omega
          go_wp2_with fail
          go_ret
          exact ⟨ret_bool (yes_t (show SameP ds fs es gs from ⟨HN.out.1.trans HN.out.2.symm, HM.out.1.trans HM.out.2.symm, DD.out, fun j a b ha hb' => hs.out j a b (by have := (List.getElem?_eq_some_iff.1 ha).1; have := HM.out.1; omega) ha hb'⟩)).symm, hb⟩
/-- The document's own Same tells whether two programs are the same but for places. -/
theorem sameP_any (ds fs : List Dl) (es gs : List Px) (u v : Value) (h1 h2 : Nat) (w : World) (hu : PV h1 w u ds es) (hv : PV h2 w v fs gs) (l1 : h1 ≤ w.heap.size) (l2 : h2 ≤ w.heap.size) :
    Calls Tryz.prog 16 #[u, v, .bool false] w fun e w' => e = .returned (.bool (yes (SameP ds fs es gs))) ∧ Below w.heap.size w w' := by
  obtain ⟨a1, c1, e1, f1, rfl, hd1, hx1⟩ := hu
  obtain ⟨a2, c2, e2, f2, rfl, hd2, hx2⟩ := hv
  unfold prv
  by_cases q : ds.length = fs.length ∧ es.length = gs.length
  · rw [← q.1, ← q.2]
    exact same2_walk ds fs es gs h1 h2 w a1 a2 e1 e2 _ c1 c2 _ f1 f2 ⟨rfl, q.1.symm⟩ ⟨rfl, q.2.symm⟩ hd1.cap.2 hx1.cap.2 ⟨hd1.row, hd2.row, hx1.row, hx2.row, l1, l2⟩
  · rw [yes_f (p := SameP ds fs es gs) fun h => q ⟨h.dl, h.el⟩]
    exact same2_len a1 a2 e1 e2 _ c1 _ f1 _ c2 _ f2 w (by omega)
end Go.Proofs.YtkljakeccfnakaaGreatDoor
