/-
  The walk of Order of the document's own answers.
-/
import Derived.Test.YtcfegclnkheebaaDoorI
import Derived.Test.YtcfegclnkheebaaDoorX
namespace Go.Proofs.YtcfegclnkheebaaDoor
open Go.RowKit

/-- Block g holds just the bools bs, and they may be written. -/
def OwnB (w : World) (g : Nat) (bs : List Bool) : Prop := w.heap[g]? = some (.cells (bs.map Value.bool).toArray 4 (0, 0))
theorem OwnB.lt {w : World} {g : Nat} {zs : List Bool} (h : OwnB w g zs) : g < w.heap.size := lt_of_block h
theorem OwnB.cell {w : World} {g : Nat} {zs : List Bool} (h : OwnB w g zs) {i : Nat} (hi : i < zs.length) : w.cell? ⟨g, i, none⟩ = some (.bool (zs.getD i false)) := by
  unfold OwnB at h
  simp [World.cell?, h, hi]
theorem OwnB.free {w : World} {g : Nat} {zs : List Bool} (h : OwnB w g zs) (i : Nat) : w.frozen? ⟨g, i, none⟩ = false := by
  unfold OwnB at h
  simp [World.frozen?, h]
theorem OwnB.store {w : World} {g : Nat} {zs : List Bool} (h : OwnB w g zs) (i : Nat) (z : Bool) : OwnB (w.setCell ⟨g, i, none⟩ (.bool z)) g (zs.set i z) := by
  unfold OwnB at *
  rw [heap_setCell_same w g i _ 4 _ h]
  simp
theorem OwnB.alloc {w : World} {g : Nat} {zs : List Bool} (h : OwnB w g zs) (o : Obj) : OwnB (w.alloc o) g zs := (Below.heap_alloc w o g h.lt).trans h
theorem Grew.ownB {base g : Nat} {w w' : World} {zs : List Bool} (h : Grew base w w') (ho : OwnB w g zs) : OwnB w' g zs := by
  obtain ⟨row, hg, hr⟩ := h
  refine (hg.block g ho.lt ?_).trans ho
  intro e
  obtain ⟨_, cur, hc⟩ := hr g e.symm
  unfold OwnB at ho
  rw [ho] at hc
  simp at hc
theorem Que.otherB {w w' : World} {base g : Nat} {v : Value} {ns : List Nat} {zs : List Bool} (h : Que w base v ns) (ho : OwnB w g zs) (hg : w.grownBy w' (some g)) : Que w' base v ns := by
  obtain ⟨ao, cap, rfl, h⟩ := h
  refine ⟨ao, cap, rfl, ?_⟩
  rcases h with h | ⟨b, off, cur, e1, e2, e3, e4, e5, e6⟩
  · exact Or.inl h
  · refine Or.inr ⟨b, off, cur, e1, e2, ?_, e4, e5, e6⟩
    refine (hg.block b (lt_of_block e3) ?_).trans e3
    intro e
    rw [Option.some.injEq] at e
    subst e
    unfold OwnB at ho
    rw [ho] at e3
    simp at e3
theorem Tryd.info4 : (Tryd.prog.info? 4).map (fun i => (i.zero, i.size, i.bytes)) = some (some (.bool false), 1, 1) := by kernel_rfl
theorem ownB_of_row {w : World} {base g n : Nat} (h : w.ownsRow base 4 1 (.slice (some ⟨g, 0, none⟩) n n) n (madeCells (Value.bool false).cells (n * 1)).toList) : OwnB w g (List.replicate n false) ∧ base ≤ g := by
  rcases h.2 with ⟨h', _⟩ | ⟨g', cap', cur, h', hb, hg, hnc, hcm, hcs, htake⟩
  · simp at h'
  · simp only [Value.slice.injEq, Option.some.injEq, Addr.mk.injEq, and_true, true_and] at h'
    obtain ⟨rfl, rfl⟩ := h'
    refine ⟨?_, hb⟩
    unfold OwnB
    rw [hg]
    congr 2
    have e1 : cur.toList = (madeCells (Value.bool false).cells (n * 1)).toList := by
      rw [← htake, List.take_of_length_le (by simp [hcs])]
    have e2 : (madeCells (Value.bool false).cells (n * 1)).toList = List.replicate n (Value.bool false) := by
      rw [Nat.mul_one]; exact toList_madeCells_one _ _
    rw [e2] at e1
    apply Array.toList_inj.1
    rw [e1]; simp

set_option maxHeartbeats 4000000 in
theorem refOrder_any (u : Value) (xs : List Nat) (w : World) (hu : Sl w u xs) :
    Calls Tryd.prog 24 #[u] w fun e w' => Below w.heap.size w w' ∧ ((ordL (fun i k => hasB xs i k) (sz xs) = none ∧ e = .returned (.tuple #[.slice none 0 0, .bool false])) ∨ ∃ v l, ordL (fun i k => hasB xs i k) (sz xs) = some l ∧ e = .returned (.tuple #[v, .bool true]) ∧ Que w' w.heap.size v l ∧ l.length = sz xs) := by
  obtain ⟨n, hn⟩ : ∃ n, sz xs = n := ⟨_, rfl⟩
  have hx := sz_le xs
  have n64 : n ≤ 64 := by omega
  obtain ⟨R, hR⟩ : ∃ F : Nat → Nat → Bool, F = fun (i k : Nat) => hasB xs i k := ⟨_, rfl⟩
  obtain ⟨i0, hi, hz0, hz1, hz2⟩ := info_parts Tryd.info4
  rw [hn, ← hR]
  have HR : Hid (∀ i k : Nat, R i k = hasB xs i k) := fun i k => by rw [hR]
  clear hR
  go_enter Tryd.func24, Tryd.ntmps24
  go_wp2_with (first | (go_at_call 41; refine (refSize_any _ _ _ hu).mono ?_; rintro e w' ⟨rfl, hw⟩; subst w') | (at_make; refine wpList_make_full _ rfl (.tmp 13) (.tmp 13) 59 rfl w.heap.size 4 i0 (.bool false) 1 Tryd.underlying59 hi hz0 hz1 .i64 .i64 _ _ n rfl rfl rfl rfl (by rw [hz2]; omega) (by unfold maxLen; omega) (Nat.le_refl _) ?_; intro w1 hown hgrow))
  obtain ⟨ho, _⟩ := ownB_of_row hown
  have hb1 : Below w.heap.size w w1 := (Below.refl _ _).grown hgrow (Nat.le_refl _) (fun k e => by simp at e)
  clear hown hgrow hi hz0 hz1 hz2 hx hn
  go_loopg [5] n (fun gk v wr => ∃ (l : List Nat) (bs : List Bool), gk = n - l.length ∧ l.length ≤ n ∧ Que wr w.heap.size v l ∧ OwnB wr w.heap.size bs ∧ bs.length = n ∧ Hid (∀ k, k < n → bs.getD k false = l.contains k) ∧ Hid (ordF R n (n - l.length) l = ordL R n) ∧ Below w.heap.size w wr)
  case atStart => exact ⟨[], _, by simp, by simp, Que.nil _ _, ho, by simp, fun k hk => by simp [hk], rfl, hb1⟩
  case round =>
    clear ho hb1
    obtain ⟨l, bs, hgk, hln, hq, ho, hbl, hT, hord, hb⟩ := hrel
    have hqs := hq
    obtain ⟨ao, cap, rfl, _⟩ := hqs
    by_cases hlt : l.length < n
    · have hlt' : (l.length : Int) < (n : Int) := by omega
      go_wp2_with fail
      go_loop [7, 8] (fun s t => ∃ d : Nat, d ≤ n ∧ s = .int .i64 (atI n (leastFrom R n l d)) ∧ t = .int .i64 ((n : Int) - 1 - d)) (fun _ t => (intOf t + 1).toNat)
      case atStart => exact ⟨0, by omega, by simp [leastFrom, atI], by simp⟩
      case round =>
        obtain ⟨d, hd, rfl, rfl⟩ := hrel
        by_cases hdn : d < n
        · have eK : (n : Int) - 1 - (d : Int) = ((n - (d + 1) : Nat) : Int) := by omega
          rw [eK]
          have ly := leastFrom_yes (R := R) (n := n) (l := l) (d := d)
          have ln := leastFrom_no (R := R) (n := n) (l := l) (d := d)
          obtain ⟨K, hK⟩ : ∃ K, n - (d + 1) = K := ⟨_, rfl⟩
          rw [hK] at ly ln ⊢
          have hKn : K < n := by omega
          have HK : Hid (K + (d + 1) = n) := by show _ = _; omega
          have LY : Hid (freeB R n l K = true → leastFrom R n l (d + 1) = K) := ly
          have LN : Hid (freeB R n l K = false → leastFrom R n l (d + 1) = leastFrom R n l d) := ln
          clear ly ln hK eK
          have hKn' : (K : Int) < (n : Int) := by omega
          have hcK := ho.cell (i := K) (by omega)
          rw [hT.out K hKn] at hcK
          go_wp2_with fail
          go_loop [9, 10] (fun s t => ∃ i : Nat, i ≤ n ∧ s = .bool (freeP R l K i) ∧ t = .int .i64 i) (fun _ t => n - (intOf t).toNat)
          case atStart => exact ⟨0, by omega, by rw [freeP_zero]; simp, rfl⟩
          case round =>
            obtain ⟨i, hin, rfl, rfl⟩ := hrel
            by_cases hi : i < n
            · have hi' : (i : Int) < (n : Int) := by omega
              have hci := ho.cell (i := i) (by omega)
              rw [hT.out i hi] at hci
              have hsu := hu.below hb
              have fs := freeP_succ R l K i
              rw [HR.out] at fs
              have FS : Hid (freeP R l K (i + 1) = (freeP R l K i && (l.contains i || !hasB xs i K))) := fs
              clear fs
              cases hct : l.contains i
              · rw [hct] at hci
                cases hx : hasB xs i K
                · go_wp2_with (go_at_call 20; refine (refHas_any _ _ _ _ _ hsu).mono ?_; rintro e w' ⟨rfl, hw⟩; subst w')
                  go_round
                  case rel => exact ⟨i + 1, by omega, by rw [FS.out, hct, hx]; simp, by go_num⟩
                  case measure => simp [intOf]; omega
                · go_wp2_with (go_at_call 20; refine (refHas_any _ _ _ _ _ hsu).mono ?_; rintro e w' ⟨rfl, hw⟩; subst w')
                  go_round
                  case rel => exact ⟨i + 1, by omega, by rw [FS.out, hct, hx]; simp, by go_num⟩
                  case measure => simp [intOf]; omega
              · rw [hct] at hci
                go_wp2_with fail
                go_round
                case rel => exact ⟨i + 1, by omega, by rw [FS.out, hct]; simp, by go_num⟩
                case measure => simp [intOf]; omega
            · have e : i = n := by omega
              subst e
              cases hfr : freeP R l K i
              · go_wp2_with fail
                go_round
                case rel => exact ⟨d + 1, by omega, by rw [LN.out hfr], by have := HK.out; go_num⟩
                case measure => first | (simp [intOf]; done) | (simp [intOf]; omega)
              · go_wp2_with fail
                go_round
                case rel => exact ⟨d + 1, by omega, by rw [LY.out hfr]; simp [atI, hKn], by have := HK.out; go_num⟩
                case measure => first | (simp [intOf]; done) | (simp [intOf]; omega)
        · have e : d = n := by omega
          subst e
          by_cases hm : leastFrom R d l d < d
          · obtain ⟨m, hmm⟩ : ∃ m, leastFrom R d l d = m := ⟨_, rfl⟩
            have HM : Hid (leastFrom R d l d = m) := hmm
            rw [hmm] at hm ⊢
            have ea : atI d m = (m : Int) := by simp [atI, hm]
            rw [ea]
            have hm' : (m : Int) < (d : Int) := by omega
            have hcm := ho.cell (i := m) (by omega)
            have hfm := ho.free m
            have hst := ho.store m true
            clear hmm ea
            have hgw : wr.grownBy (wr.setCell ⟨w.heap.size, m, none⟩ (.bool true)) (some w.heap.size) := ⟨rfl, rfl, rfl, by simp, fun j _ hj => heap_setCell_other _ _ _ _ (fun e => hj (by simp [e]))⟩
            have hq2 := hq.otherB ho hgw
            have hb2 : Below w.heap.size w (wr.setCell ⟨w.heap.size, m, none⟩ (.bool true)) := hb.setCell (Nat.le_refl _) _
            have hsz2 : (wr.setCell ⟨w.heap.size, m, none⟩ (.bool true)).heap.size = wr.heap.size := by simp
            go_wp2_with (at_builtin; refine wpList_append_que _ rfl (.tmp 53) (.tmp 55) rfl w.heap.size _ l rfl (hq2.alloc _) wr.heap.size 1 m rfl (by go_simp) (by omega) (by have := hb.size; simp; omega) ?_; intro v' w3 hq3 hg3)
            go_roundg (d - (l.length + 1))
            case measure => omega
            case rel =>
              refine ⟨l ++ [m], bs.set m true, by simp, by simp; omega, hq3, hg3.ownB (hst.alloc _), by simpa using hbl, fun k hk => ?_, ?_, hg3.below (hb2.alloc (by rw [hsz2]; exact hb.size) _) (Nat.le_refl _) (by have := hb.size; simp; omega)⟩
              · by_cases e : k = m
                · subst e
                  rw [List.getD_eq_getElem?_getD, List.getElem?_set_self (by omega)]
                  simp
                · rw [List.getD_eq_getElem?_getD, List.getElem?_set_ne (by omega), ← List.getD_eq_getElem?_getD, hT.out k hk]
                  simp [e]
              · show ordF R d (d - (l ++ [m]).length) (l ++ [m]) = ordL R d
                have ho1 := hord.out
                rw [show d - l.length = (d - (l.length + 1)) + 1 by omega, ordF_some (by rw [HM.out]; exact hm), HM.out] at ho1
                rw [List.length_append, List.length_singleton]; exact ho1
          · have ea : atI d (leastFrom R d l d) = -1 := by simp [atI, hm]
            rw [ea]
            go_wp2_with fail
            go_ret2
            refine ⟨hb, Or.inl ⟨?_, rfl⟩⟩
            rw [← hord.out, show d - l.length = (d - l.length - 1) + 1 by omega, ordF_none hm]
    · have e : l.length = n := by omega
      go_wp2_with fail
      go_ret2
      refine ⟨hb, Or.inr ⟨_, l, ?_, rfl, hq, e⟩⟩
      rw [← hord.out, e, Nat.sub_self]; rfl
end Go.Proofs.YtcfegclnkheebaaDoor
