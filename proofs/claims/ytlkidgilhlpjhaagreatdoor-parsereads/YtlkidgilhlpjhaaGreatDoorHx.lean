/-
  The document's Same: two programs, one behind the other.
  The document's Same answers true of two programs that are the same.
-/
import Derived.Test.YtlkidgilhlpjhaaGreatDoorHt
import Derived.Test.YtlkidgilhlpjhaaGreatDoorHS
import Derived.BigRegion
namespace Go.Proofs.YtlkidgilhlpjhaaGreatDoor
open Go.RowKit

set_option maxHeartbeats 8000000 in
theorem same_prog_walk (pb : Bool) (w : World) (lo lo2 : Nat) (a1 a2 e1 e2 : Option Addr) (n c1 c2 m f1 f2 : Nat) (hn : n <= 8) (hm : m <= 1000000)
  (hD : ∀ j, j < n -> ∃ (b1 o1 b2 o2 kd : Nat) (tx : ByteArray) (nn : Int) (pp pp2 : Nat), a1 = some ⟨b1, o1, none⟩ /\ a2 = some ⟨b2, o2, none⟩ /\ b1 < w.heap.size /\ b2 < w.heap.size /\ (pb = true -> pp = pp2) /\ (w.cell? ⟨b1, o1 + j * 4, none⟩ = some (.int .i64 (kd : Int)) /\ w.cell? ⟨b1, o1 + j * 4 + 1, none⟩ = some (.string tx) /\ w.cell? ⟨b1, o1 + j * 4 + 2, none⟩ = some (.int .i64 (nn : Int)) /\ w.cell? ⟨b1, o1 + j * 4 + 3, none⟩ = some (.int .i64 (pp : Int))) /\ (w.cell? ⟨b2, o2 + j * 4, none⟩ = some (.int .i64 (kd : Int)) /\ w.cell? ⟨b2, o2 + j * 4 + 1, none⟩ = some (.string tx) /\ w.cell? ⟨b2, o2 + j * 4 + 2, none⟩ = some (.int .i64 (nn : Int)) /\ w.cell? ⟨b2, o2 + j * 4 + 3, none⟩ = some (.int .i64 (pp2 : Int))))
  (hE : ∀ j, j < m -> ∃ (p q : Ex) (b1 o1 b2 o2 : Nat), e1 = some ⟨b1, o1, none⟩ /\ e2 = some ⟨b2, o2, none⟩ /\ SameX pb p q /\ (∃ (kd : Nat) (nn : Int) (pp : Nat) (tx ox : ByteArray) (a : Option Addr) (ln cp : Nat), b1 < w.heap.size /\ (w.cell? ⟨b1, o1 + j * 6, none⟩ = some (.int .i64 (kd : Int)) /\ w.cell? ⟨b1, o1 + j * 6 + 1, none⟩ = some (.string tx) /\ w.cell? ⟨b1, o1 + j * 6 + 2, none⟩ = some (.string ox) /\ w.cell? ⟨b1, o1 + j * 6 + 3, none⟩ = some (.int .i64 (nn : Int)) /\ w.cell? ⟨b1, o1 + j * 6 + 4, none⟩ = some (.int .i64 (pp : Int)) /\ w.cell? ⟨b1, o1 + j * 6 + 5, none⟩ = some (.slice a ln cp)) /\ ExV lo w (.agg #[.int .i64 (kd : Int), .string tx, .string ox, .int .i64 (nn : Int), .int .i64 (pp : Int), .slice a ln cp]) p) /\ (∃ (kd : Nat) (nn : Int) (pp : Nat) (tx ox : ByteArray) (a : Option Addr) (ln cp : Nat), b2 < w.heap.size /\ (w.cell? ⟨b2, o2 + j * 6, none⟩ = some (.int .i64 (kd : Int)) /\ w.cell? ⟨b2, o2 + j * 6 + 1, none⟩ = some (.string tx) /\ w.cell? ⟨b2, o2 + j * 6 + 2, none⟩ = some (.string ox) /\ w.cell? ⟨b2, o2 + j * 6 + 3, none⟩ = some (.int .i64 (nn : Int)) /\ w.cell? ⟨b2, o2 + j * 6 + 4, none⟩ = some (.int .i64 (pp : Int)) /\ w.cell? ⟨b2, o2 + j * 6 + 5, none⟩ = some (.slice a ln cp)) /\ ExV lo2 w (.agg #[.int .i64 (kd : Int), .string tx, .string ox, .int .i64 (nn : Int), .int .i64 (pp : Int), .slice a ln cp]) q)) :
  Calls Tryz.prog 7 #[.agg #[.slice a1 n c1, .slice e1 m f1], .agg #[.slice a2 n c2, .slice e2 m f2], .bool pb] w fun e w' => e = .returned (.bool true) /\ Below w.heap.size w w' := by
 have HD := hi_ hD; have HE := hi_ hE; clear hD hE; have zn : ((n : Int) != (n : Int)) = false := by simp
 have zm : ((m : Int) != (m : Int)) = false := by simp
 go_enter Tryz.func7, Tryz.ntmps7
 go_wp2
 go_loopw [7] (fun t wr => ∃ (i : Nat), i <= n /\ t = .int .i64 i /\ Below w.heap.size w wr /\ wr.cell? ⟨w.heap.size, 0, none⟩ = some (.slice a1 n c1) /\ wr.cell? ⟨w.heap.size, 1, none⟩ = some (.slice e1 m f1) /\ wr.cell? ⟨w.heap.size + 1, 0, none⟩ = some (.slice a2 n c2) /\ wr.cell? ⟨w.heap.size + 1, 1, none⟩ = some (.slice e2 m f2)) (fun t _ => n - (intOf t).toNat)
 case atStart => exact ⟨0, Nat.zero_le _, rfl, ba (ba (Below.refl _ _)), by go_simp, by go_simp, by go_simp, by go_simp⟩
 case round =>
  obtain ⟨i, hi, rfl, hb, x0, x1, y0, y1⟩ := hrel
  by_cases c : i < n
  ·have c' : (i : Int) < (n : Int) := by omega
   obtain ⟨b1, o1, b2, o2, kd, tx, nn, pp, pp2, rfl, rfl, l1, l2, hpp, ⟨k0, k1, k2, k3⟩, ⟨m0, m1, m2, m3⟩⟩ := HD.out i c; have K0 := (hb.cell (p := ⟨b1, o1 + i * 4, none⟩) l1).trans k0; have K1 := (hb.cell (p := ⟨b1, o1 + i * 4 + 1, none⟩) l1).trans k1; have K2 := (hb.cell (p := ⟨b1, o1 + i * 4 + 2, none⟩) l1).trans k2; have K3 := (hb.cell (p := ⟨b1, o1 + i * 4 + 3, none⟩) l1).trans k3; have M0 := (hb.cell (p := ⟨b2, o2 + i * 4, none⟩) l2).trans m0; have M1 := (hb.cell (p := ⟨b2, o2 + i * 4 + 1, none⟩) l2).trans m1; have M2 := (hb.cell (p := ⟨b2, o2 + i * 4 + 2, none⟩) l2).trans m2; have M3 := (hb.cell (p := ⟨b2, o2 + i * 4 + 3, none⟩) l2).trans m3; have HB : Hid (Below w.heap.size w wr) := hb; have u0 := lt_cell x0; have u1 := lt_cell y0; have g1 : b1 < wr.heap.size := Nat.lt_of_lt_of_le l1 hb.size; have g2 : b2 < wr.heap.size := Nat.lt_of_lt_of_le l2 hb.size; clear k0 k1 k2 k3 m0 m1 m2 m3 l1 l2 hb; have d0 : b1 ≠ wr.heap.size := by omega
   have d1 : wr.heap.size ≠ b1 := by omega
   have d2 : b1 ≠ (wr.heap.size + 1) := by omega
   have d3 : (wr.heap.size + 1) ≠ b1 := by omega
   have t4 : b1 < wr.heap.size + 1 := by omega
   have d4 : b2 ≠ wr.heap.size := by omega
   have d5 : wr.heap.size ≠ b2 := by omega
   have d6 : b2 ≠ (wr.heap.size + 1) := by omega
   have d7 : (wr.heap.size + 1) ≠ b2 := by omega
   have t8 : b2 < wr.heap.size + 1 := by omega
   have d8 : w.heap.size ≠ wr.heap.size := by omega
   have d9 : wr.heap.size ≠ w.heap.size := by omega
   have d10 : w.heap.size ≠ (wr.heap.size + 1) := by omega
   have d11 : (wr.heap.size + 1) ≠ w.heap.size := by omega
   have t12 : w.heap.size < wr.heap.size + 1 := by omega
   have d12 : (w.heap.size + 1) ≠ wr.heap.size := by omega
   have d13 : wr.heap.size ≠ (w.heap.size + 1) := by omega
   have d14 : (w.heap.size + 1) ≠ (wr.heap.size + 1) := by omega
   have d15 : (wr.heap.size + 1) ≠ (w.heap.size + 1) := by omega
   have t16 : (w.heap.size + 1) < wr.heap.size + 1 := by omega
   have zk : ((kd : Int) != (kd : Int)) = false := by simp
   have zw : ((nn : Int) != (nn : Int)) = false := by simp
   have zt : (tx.toList != tx.toList) = false := by simp
   have zt2 : (tx.toList == tx.toList) = true := by simp
   have zp : pb = true -> ((pp : Int) != (pp2 : Int)) = false := fun h => by rw [hpp h]; simp
   go_wp2_with fail
   go_region
   all_goals
    simp only [Exit.then]
    cases pb
    case false =>
     go_wp2_with fail
     go_roundw
     case rel => exact ⟨i + 1, by omega, by go_num, Below.drew (ba (ba HB.out)), by go_simp, by go_simp, by go_simp, by go_simp⟩
     case measure => simp [intOf]; omega
    case true =>
     have zq := zp rfl; clear zp; go_wp2_with fail
     go_roundw
     case rel => exact ⟨i + 1, by omega, by go_num, Below.drew (ba (ba HB.out)), by go_simp, by go_simp, by go_simp, by go_simp⟩
     case measure => simp [intOf]; omega
  ·have c' : ¬ (i : Int) < (n : Int) := by omega
   go_wp2_with fail
   go_loopw [10] (fun t wr => ∃ (i : Nat), i <= m /\ t = .int .i64 i /\ Below w.heap.size w wr /\ wr.cell? ⟨w.heap.size, 1, none⟩ = some (.slice e1 m f1) /\ wr.cell? ⟨w.heap.size + 1, 1, none⟩ = some (.slice e2 m f2)) (fun t _ => m - (intOf t).toNat)
   case atStart => exact ⟨0, Nat.zero_le _, rfl, hb, x1, y1⟩
   clear hb x0 y0 x1 y1 hi c c'
   case round =>
    obtain ⟨i, hi, rfl, hb, x1, y1⟩ := hrel
    by_cases c : i < m
    ·have c' : (i : Int) < (m : Int) := by omega
     obtain ⟨p, q, b1, o1, b2, o2, rfl, rfl, hS, ⟨kd3, nn3, pp3, tx3, ox3, a3, ln3, cp3, l3, ⟨k0, k1, k2, k3, k4, k5⟩, hx3⟩, ⟨kd4, nn4, pp4, tx4, ox4, a4, ln4, cp4, l4, ⟨m0, m1, m2, m3, m4, m5⟩, hx4⟩⟩ := HE.out i c; have HC : Hid (∀ W : World, Below w.heap.size w W -> Calls Tryz.prog 18 #[.agg #[.int .i64 (kd3 : Int), .string tx3, .string ox3, .int .i64 (nn3 : Int), .int .i64 (pp3 : Int), .slice a3 ln3 cp3], .agg #[.int .i64 (kd4 : Int), .string tx4, .string ox4, .int .i64 (nn4 : Int), .int .i64 (pp4 : Int), .slice a4 ln4 cp4], .bool pb] W fun e w' => e = .returned (.bool true) /\ Below W.heap.size W w') := fun W hW => by
      rw [← same_yes hS]; exact same_any (szE p) p q _ _ pb _ _ W (Nat.le_refl _) (hx3.keep ((Kept.refl _ _).below hW)) (hx4.keep ((Kept.refl _ _).below hW))
     have g1 := Nat.lt_of_lt_of_le l3 hb.size; have g2 := Nat.lt_of_lt_of_le l4 hb.size; have L0 := later_cell (W := wr) (a := ⟨b1, o1 + i * 6, none⟩) g1 ((hb.cell (p := ⟨b1, o1 + i * 6, none⟩) l3).trans k0); have M0 := later_cell (W := wr) (a := ⟨b2, o2 + i * 6, none⟩) g2 ((hb.cell (p := ⟨b2, o2 + i * 6, none⟩) l4).trans m0); have L1 := later_cell (W := wr) (a := ⟨b1, o1 + i * 6 + 1, none⟩) g1 ((hb.cell (p := ⟨b1, o1 + i * 6 + 1, none⟩) l3).trans k1); have M1 := later_cell (W := wr) (a := ⟨b2, o2 + i * 6 + 1, none⟩) g2 ((hb.cell (p := ⟨b2, o2 + i * 6 + 1, none⟩) l4).trans m1); have L2 := later_cell (W := wr) (a := ⟨b1, o1 + i * 6 + 2, none⟩) g1 ((hb.cell (p := ⟨b1, o1 + i * 6 + 2, none⟩) l3).trans k2); have M2 := later_cell (W := wr) (a := ⟨b2, o2 + i * 6 + 2, none⟩) g2 ((hb.cell (p := ⟨b2, o2 + i * 6 + 2, none⟩) l4).trans m2); have L3 := later_cell (W := wr) (a := ⟨b1, o1 + i * 6 + 3, none⟩) g1 ((hb.cell (p := ⟨b1, o1 + i * 6 + 3, none⟩) l3).trans k3); have M3 := later_cell (W := wr) (a := ⟨b2, o2 + i * 6 + 3, none⟩) g2 ((hb.cell (p := ⟨b2, o2 + i * 6 + 3, none⟩) l4).trans m3); have L4 := later_cell (W := wr) (a := ⟨b1, o1 + i * 6 + 4, none⟩) g1 ((hb.cell (p := ⟨b1, o1 + i * 6 + 4, none⟩) l3).trans k4); have M4 := later_cell (W := wr) (a := ⟨b2, o2 + i * 6 + 4, none⟩) g2 ((hb.cell (p := ⟨b2, o2 + i * 6 + 4, none⟩) l4).trans m4); have L5 := later_cell (W := wr) (a := ⟨b1, o1 + i * 6 + 5, none⟩) g1 ((hb.cell (p := ⟨b1, o1 + i * 6 + 5, none⟩) l3).trans k5)
     have M5 := later_cell (W := wr) (a := ⟨b2, o2 + i * 6 + 5, none⟩) g2 ((hb.cell (p := ⟨b2, o2 + i * 6 + 5, none⟩) l4).trans m5); have X5 := later_cell (W := wr) (a := ⟨w.heap.size, 1, none⟩) (lt_cell x1) x1; have Y5 := later_cell (W := wr) (a := ⟨w.heap.size + 1, 1, none⟩) (lt_cell y1) y1; have ne : Nonempty (Later wr) := ⟨⟨wr, Below.refl _ _⟩⟩; have BW : Hid (Below w.heap.size w wr) := hb; clear k0 k1 k2 k3 k4 k5 m0 m1 m2 m3 m4 m5 hx3 hx4 hS; go_wp2_with fail; refine wp_region_later (by kernel_rfl) (by kernel_rfl) ?_
     repeat (go_big_quiet_step ((go_at_call 18; exact calls_later (HC.out _ (bl2 BW.out (Later.h _))))))
     refine wpQuiet_nil ?_; rintro wq ⟨⟨wv, hwq⟩, hE⟩; obtain rfl : wq = wv := hE; have x1' := (hwq.cell (p := ⟨w.heap.size, 1, none⟩) (lt_cell x1)).trans x1; have y1' := (hwq.cell (p := ⟨w.heap.size + 1, 1, none⟩) (lt_cell y1)).trans y1; clear L0 L1 L2 L3 L4 L5 M0 M1 M2 M3 M4 M5 X5 Y5 ne
     simp only [Exit.then]
     go_wp2_with fail
     go_roundw
     case rel => exact ⟨i + 1, by omega, by go_num, bl2 BW.out hwq, x1', y1'⟩
     case measure => simp [intOf]; omega
    ·have c' : ¬ (i : Int) < (m : Int) := by omega
     go_wp2_with fail
     go_ret
     exact ⟨rfl, hb⟩
end Go.Proofs.YtlkidgilhlpjhaaGreatDoor

namespace Go.Proofs.YtlkidgilhlpjhaaGreatDoor
open Go.RowKit

theorem pr_slice {lo : Nat} {w : World} {a : Option Addr} {l f : Nat} {es : List Ex} (hx : ExV lo w (exV 0 [] [] 0 0 (.slice a l f)) (.mk 0 [] [] 0 0 es)) (hne : es ≠ []) : ∃ b off : Nat, a = some ⟨b, off, none⟩ /\ ∀ (j : Nat) (p : Ex), es[j]? = some p -> ∃ (kd : Nat) (nn : Int) (pp : Nat) (tx ox : ByteArray) (a : Option Addr) (ln cp : Nat), b < w.heap.size /\ (w.cell? ⟨b, off + j * 6, none⟩ = some (.int .i64 (kd : Int)) /\ w.cell? ⟨b, off + j * 6 + 1, none⟩ = some (.string tx) /\ w.cell? ⟨b, off + j * 6 + 2, none⟩ = some (.string ox) /\ w.cell? ⟨b, off + j * 6 + 3, none⟩ = some (.int .i64 (nn : Int)) /\ w.cell? ⟨b, off + j * 6 + 4, none⟩ = some (.int .i64 (pp : Int)) /\ w.cell? ⟨b, off + j * 6 + 5, none⟩ = some (.slice a ln cp)) /\ ExV lo w (.agg #[.int .i64 (kd : Int), .string tx, .string ox, .int .i64 (nn : Int), .int .i64 (pp : Int), .slice a ln cp]) p := by
 obtain ⟨b, off, cq, e, _, r⟩ := kids_row hx hne
 simp only [exV, Value.agg.injEq, Array.mk.injEq, List.cons.injEq, Value.slice.injEq] at e
 exact ⟨b, off, e.2.2.2.2.2.1.1, r⟩
theorem same_prog (pb : Bool) {lo lo2 : Nat} {w : World} {u v : Value} {ds ds2 es es2 : List Ex} (h1 : PrV lo w u ds es) (h2 : PrV lo2 w v ds2 es2) (hd : ds.length = ds2.length) (hdj : ∀ (j : Nat) (d d2 : Ex), ds[j]? = some d -> ds2[j]? = some d2 -> SameX pb d d2) (he : es.length = es2.length) (hej : ∀ (j : Nat) (p q : Ex), es[j]? = some p -> es2[j]? = some q -> SameX pb p q) :
  Calls Tryz.prog 7 #[u, v, .bool pb] w fun e w' => e = .returned (.bool true) /\ Below w.heap.size w w' := by
 obtain ⟨vd, vx, rfl, ⟨hn, a1, c1, rfl, _, hr1⟩, hx⟩ := h1; obtain ⟨vd2, vx2, rfl, ⟨_, a2, c2, rfl, _, hr2⟩, hx2⟩ := h2; obtain ⟨e1, f1, ee⟩ := hx.form
 simp only [exV, Value.agg.injEq, Array.mk.injEq, List.cons.injEq, and_true, true_and, Ex.kind, Ex.text, Ex.other, Ex.n, Ex.pl, Ex.kids] at ee
 subst ee; obtain ⟨e2, f2, ee⟩ := hx2.form
 simp only [exV, Value.agg.injEq, Array.mk.injEq, List.cons.injEq, and_true, true_and, Ex.kind, Ex.text, Ex.other, Ex.n, Ex.pl, Ex.kids] at ee
 subst ee; have hm : es.length <= 1000000 := kids_len hx; rw [← hd, ← he]; refine same_prog_walk pb w lo lo2 a1 a2 e1 e2 ds.length c1 c2 es.length f1 f2 hn hm (fun j hj => ?_) (fun j hj => ?_)
 ·obtain ⟨d, hd1⟩ : ∃ d, ds[j]? = some d := ⟨_, List.getElem?_eq_getElem hj⟩; obtain ⟨d2, hd2⟩ : ∃ d, ds2[j]? = some d := ⟨_, List.getElem?_eq_getElem (by omega)⟩; obtain ⟨s1, s2, _, s4, s5, _⟩ := (same_parts pb d d2).1 (hdj j d d2 hd1 hd2)
  rcases hr1 with h0 | ⟨b1, o1, rfl, _, l1, k1⟩
  ·rw [h0] at hd1; simp at hd1
  rcases hr2 with h0 | ⟨b2, o2, rfl, _, l2, k2⟩
  ·rw [h0] at hd2; simp at hd2
  have q2 := k2 j d2 hd2; rw [← s1, ← s2, ← s4] at q2; exact ⟨b1, o1, b2, o2, d.kind, _, d.n, d.pl, d2.pl, rfl, rfl, l1, l2, s5, k1 j d hd1, q2⟩
 ·obtain ⟨p, hp⟩ : ∃ p, es[j]? = some p := ⟨_, List.getElem?_eq_getElem hj⟩; obtain ⟨q, hq⟩ : ∃ q, es2[j]? = some q := ⟨_, List.getElem?_eq_getElem (by omega)⟩; obtain ⟨b1, o1, g1, r1⟩ := pr_slice hx (fun h0 => by rw [h0] at hp; simp at hp); obtain ⟨b2, o2, g2, r2⟩ := pr_slice hx2 (fun h0 => by rw [h0] at hq; simp at hq); exact ⟨p, q, b1, o1, b2, o2, g1, g2, hej j p q hp hq, r1 j p hp, r2 j q hq⟩
end Go.Proofs.YtlkidgilhlpjhaaGreatDoor
