/-
  The walks of write (whole), first and decl.
  The walks of decl and of Show.
  The walk of Show.
-/
import Derived.Test.YtkljakeccfnakaaGreatDoorTq
import Derived.Test.YtkljakeccfnakaaGreatDoorTf
namespace Go.Proofs.YtkljakeccfnakaaGreatDoor
open Go.RowKit

theorem dig_len : ∀ (k u : Nat), u < 10 ^ (k + 1) → (Lib.decDigits u).length ≤ k + 1 := by
  intro k
  induction k with
  | zero => intro u h; rw [Lib.decDigits, dif_pos (by omega)]; simp
  | succ k ih =>
    intro u h
    rw [Lib.decDigits]
    split
    · simp
    · rw [List.length_append]
      have := ih (u / 10) (by rw [Nat.pow_succ] at h; omega)
      simp only [List.length_cons, List.length_nil]; omega
theorem itoa_len {n : Int} (h0 : 0 ≤ n) (h1 : n ≤ 999999999) : (Lib.itoa n).length ≤ 10 := by
  unfold Lib.itoa
  rw [if_neg (by omega)]
  exact dig_len 9 _ (by have : n.toNat ≤ 999999999 := by omega
                        omega)
theorem joined_len {k : Int} {t o : List UInt8} {n : Int} (h : PatOk k t o n) : (joined 36 (pcs k t o n)).length ≤ 200 := by
  have ht := h.text
  have ho := h.other
  by_cases hp : 5 ≤ k ∧ k ≠ 10 ∧ k ≠ 12 ∧ k ≠ 18
  · rw [← pat_ins hp.1 h.hi hp.2.1 hp.2.2.1 hp.2.2.2]
    have := insT_len t o n hp.1 h.hi hp.2.1 hp.2.2.1 hp.2.2.2
    simp only [List.length_append, List.length_cons, List.length_nil]; omega
  · have := h.lo
    have hk : k = 1 ∨ k = 2 ∨ k = 3 ∨ k = 4 ∨ k = 10 ∨ k = 12 ∨ k = 18 := by omega
    rcases hk with rfl | rfl | rfl | rfl | rfl | rfl | rfl
    · have := h.num rfl
      have := itoa_len this.1 this.2
      show (Lib.itoa n).length ≤ 200
      omega
    · by_cases c : n = 1
      · subst c; simp [pcs, joined]
      · simp [pcs, joined, c]
    · show ([40, 41] : List UInt8).length ≤ 200
      decide
    · simp [pcs, joined]; omega
    · simp [pcs, joined]; omega
    · simp [pcs, joined]; omega
    · show ([110, 111, 110, 101] : List UInt8).length ≤ 200
      decide
theorem pcs_cons {k : Int} {t o : List UInt8} {n : Int} {l : List Px} (h : nodeB k t o n l = true) : ∃ p ps, pcs k t o n = p :: ps ∧ ps.length ≤ 10 := by
  have e := pick_len h (m := l) rfl
  have hk := node_kind h
  cases c : pcs k t o n with
  | nil => rw [c] at e; simp at e
  | cons p ps =>
    refine ⟨p, ps, rfl, ?_⟩
    rw [c] at e
    simp only [List.length_cons] at e
    have hb : (pick3 k n l).length ≤ l.length := by
      unfold pick3
      split
      · split
        · match l with
          | [] => simp
          | [a] => simp
          | a :: b :: r => simp
        · split
          · exact Nat.le_refl _
          · match l with
            | [] => simp
            | [a] => simp
            | [a, b] => simp
            | a :: b :: c :: r => simp
      · exact Nat.le_refl _
    have hl := (node_parts h).1
    have : kidsN k ≤ 3 := by
      rcases kinds25 hk.1 hk.2 with rfl | rfl | rfl | rfl | rfl | rfl | rfl | rfl | rfl | rfl | rfl | rfl | rfl | rfl | rfl | rfl | rfl | rfl | rfl | rfl | rfl | rfl | rfl | rfl | rfl <;> decide
    omega
theorem wf_node {x : Px} (h : wfX x = true) : nodeB x.kind x.text x.other x.n x.kids = true ∧ ∀ y ∈ x.kids, wfX y = true := by
  obtain ⟨k, t, o, n, p, l⟩ := x
  rw [wfX, wfXL_all, Bool.and_eq_true] at h
  exact ⟨h.1, List.all_eq_true.1 h.2⟩
/-- write puts an expression's text behind what is in the builder. -/
theorem write_any (N : Nat) : ∀ (x : Px) (v : Value) (hi B : Nat) (acc : List UInt8) (w : World), szX x ≤ N → hi ≤ B → Ok B w → PxV hi w v x → wfX x = true → Bld B acc w → acc.length + (shwX x).length ≤ 140737488355328 →
    Calls Tryz.prog 25 #[.pointer (some ⟨B, 0, none⟩), v] w fun e w' => e = .returned (.tuple #[]) ∧ Bld B (acc ++ shwX x) w' ∧ Wr B w w' := by
  induction N with
  | zero => intro x v hi B acc w h; have := szX_pos x; omega
  | succ N ih =>
    intro x v hi B acc w hN hhi hw hx hwf hb hl
    obtain ⟨hn, hk⟩ := wf_node hwf
    obtain ⟨p, ps, hp, hps⟩ := pcs_cons hn
    have h36 := pcs_no36 hn
    have hpl := pick_len hn (m := x.kids) rfl
    have hj := joined_len (node_pat hn)
    have e := shw_eq x
    rw [hp] at h36 hpl hj e
    rw [e] at hl ⊢
    obtain ⟨a, cap, rfl, _⟩ := hx.form
    refine write_walk x.kind x.n x.pl x.text x.other a x.kids.length cap B hi acc p ps (pick3 x.kind x.n x.kids) w hhi hw hb ?_ ?_ h36 (by omega) ⟨hpl, ?_⟩ hl hps
    · exact shown_any (hx.keep ((Below.refl hi w).alloc (Nat.le_trans hhi (Nat.le_of_lt hb.lt)) _)) (by have := hb.lt; simp; omega) hn
    · intro W hW hBW
      have := pattern_any x.kind x.text x.other x.n x.pl a x.kids.length cap B W (node_pat hn) hW hBW
      rw [hp] at this
      exact this
    · intro j y u acc' W hj' hW hu hbl hll
      have hm : y ∈ x.kids := pick_mem (List.mem_of_getElem? hj')
      obtain ⟨i, hi', hy⟩ := List.getElem_of_mem hm
      have := szXL_mem x.kids i y (by rw [List.getElem?_eq_getElem hi', hy])
      exact ih y u hi B acc' W (by cases x; simp only [szX, Px.kids] at *; omega) hhi hW hu (hk y hm) hbl hll

set_option maxHeartbeats 2000000 in
theorem first_any (n : Int) (h0 : -999999999 ≤ n) (h1 : n ≤ 999999999) (B : Nat) (w : World) (hw : Ok B w) :
    Calls Tryz.prog 53 #[.int .i64 n] w fun e w' => e = .returned (.string ⟨(firstT n).toArray⟩) ∧ Below w.heap.size w w' := by
  by_cases c : n < 0
  · have HI : Hid (Calls Tryz.prog 54 #[.int .i64 (-n)] w fun e w' => e = .returned (.string ⟨(Lib.itoa (-n)).toArray⟩) ∧ Below w.heap.size w w') := itoa_any (-n) (by omega) (by omega) B w hw
    have E : Hid (firstT n = [45, 32] ++ Lib.itoa (-n)) := by show _ = _; unfold firstT; rw [if_pos c]
    have hz : IntKind.i64.wrap (-n) = -n := by rw [IntKind.wrap_i64]; omega
    have hl := itoa_len (n := -n) (by omega) (by omega)
    clear hw h0 h1
    generalize Lib.itoa (-n) = z at *
    go_enter Tryz.func53, Tryz.ntmps53
    go_wp2_with (go_at_call 54; refine HI.out.mono ?_; rintro e w2 ⟨rfl, hb2⟩)
    go_ret
    exact ⟨ret_str (by simp only [bapp, E.out]), hb2⟩
  · have HI : Hid (Calls Tryz.prog 54 #[.int .i64 n] w fun e w' => e = .returned (.string ⟨(Lib.itoa n).toArray⟩) ∧ Below w.heap.size w w') := itoa_any n (by omega) (by omega) B w hw
    have E : Hid (firstT n = Lib.itoa n) := by show _ = _; unfold firstT; rw [if_neg c]
    clear hw h0 h1
    go_enter Tryz.func53, Tryz.ntmps53
    go_wp2_with (go_at_call 54; refine HI.out.mono ?_; rintro e w2 ⟨rfl, hb2⟩)
    go_ret
    exact ⟨ret_str (by rw [E.out]), hb2⟩
theorem firstT_len {n : Int} (h0 : -999999999 ≤ n) (h1 : n ≤ 999999999) : (firstT n).length ≤ 12 := by
  unfold firstT
  split
  · have := itoa_len (n := -n) (by omega) (by omega)
    simp only [List.length_append, List.length_cons, List.length_nil]; omega
  · have := itoa_len (n := n) (by omega) (by omega)
    omega
end Go.Proofs.YtkljakeccfnakaaGreatDoor

namespace Go.Proofs.YtkljakeccfnakaaGreatDoor
open Go.RowKit

theorem declB_parts {d : Dl} (h : declB d = true) : isNameB d.name = true ∧ ((d.kind = 1 ∨ d.kind = 2) ∧ -999999999 ≤ d.n ∧ d.n ≤ 999999999 ∨ d.kind = 3 ∧ 1 ≤ d.n ∧ d.n ≤ 8) := by
  unfold declB at h
  simp only [Bool.and_eq_true] at h
  refine ⟨h.1, ?_⟩
  have h := h.2
  split at h
  · rename_i hk
    simp at hk h
    exact Or.inl ⟨hk, h.1, h.2⟩
  · split at h
    · rename_i hk
      simp at hk h
      exact Or.inr ⟨hk, h.1, h.2⟩
    · cases h
theorem shwD_len {d : Dl} (h : declB d = true) : (shwD d).length ≤ 60 := by
  obtain ⟨h1, h2⟩ := declB_parts h
  have := name_len h1
  unfold shwD
  rcases h2 with ⟨h2 | h2, h3, h4⟩ | ⟨h2, h3, h4⟩
  · rw [h2, if_pos rfl]; have := firstT_len h3 h4; simp only [List.length_append, List.length_cons, List.length_nil]; omega
  · rw [h2, if_neg (by decide), if_pos rfl]; have := firstT_len h3 h4; simp only [List.length_append, List.length_cons, List.length_nil]; omega
  · rw [h2, if_neg (by decide), if_neg (by decide)]; have := itoa_len (n := d.n) (by omega) (by omega); simp only [List.length_append, List.length_cons, List.length_nil]; omega
set_option maxHeartbeats 4000000 in
theorem decl_1 (nm z : List UInt8) (n p : Int) (w : World) (hnm : nm.length ≤ 16) (hz : z.length ≤ 20) (H : Hid (∀ W, Below w.heap.size w W → Calls Tryz.prog 53 #[.int .i64 n] W fun e w' => e = .returned (.string ⟨z.toArray⟩) ∧ Below W.heap.size W w')) :
    Calls Tryz.prog 24 #[.agg #[.int .i64 1, .string ⟨nm.toArray⟩, .int .i64 n, .int .i64 p]] w fun e w' => e = .returned (.string ⟨([99, 101, 108, 108, 32] ++ nm ++ [32, 61, 32] ++ z).toArray⟩) ∧ Below w.heap.size w w' := by
  go_enter Tryz.func24, Tryz.ntmps24
  go_wp2_with fail
  obtain ⟨w1, hw1⟩ : ∃ w1, w1 = w.alloc (.cells #[.int .i64 1, .string ⟨nm.toArray⟩, .int .i64 n, .int .i64 p] 46) := ⟨_, rfl⟩
  rw [← hw1]
  have L1 := later_cell (W := w1) (a := ⟨w.heap.size, 1, none⟩) (x := .string ⟨nm.toArray⟩) (by rw [hw1]; simp) (by rw [hw1]; go_simp)
  have L2 := later_cell (W := w1) (a := ⟨w.heap.size, 2, none⟩) (x := .int .i64 n) (by rw [hw1]; simp) (by rw [hw1]; go_simp)
  have HB : Hid (Below w.heap.size w w1) := by rw [hw1]; exact ba (Below.refl _ _)
  have lw1 : w.heap.size < w1.heap.size := by rw [hw1]; simp
  clear hw1
  have ne : Nonempty (Later w1) := ⟨⟨w1, Below.refl _ _⟩⟩
  have r1 : ¬ 9223372036854775807 < 5 + nm.length := by omega
  have r2 : ¬ 9223372036854775807 < 5 + nm.length + 3 := by omega
  have r3 : ¬ 9223372036854775807 < 5 + nm.length + 3 + z.length := by omega
  refine wp_region_later (by kernel_rfl) (by kernel_rfl) ?_
  repeat (go_big_quiet_step ((go_at_call 53; exact calls_later (H.out (Later.v _) (bl2 HB.out (Later.h _))))))
  refine wpQuiet_nil ?_
  rintro wq ⟨⟨wv, hwq⟩, hE⟩; obtain rfl : wq = wv := hE
  clear L1 L2 ne
  go_wp2_with fail
  go_ret
  exact ⟨ret_str (by simp only [bapp]; rfl), bl2 HB.out hwq⟩
set_option maxHeartbeats 4000000 in
theorem decl_2 (nm z : List UInt8) (n p : Int) (w : World) (hnm : nm.length ≤ 16) (hz : z.length ≤ 20) (H : Hid (∀ W, Below w.heap.size w W → Calls Tryz.prog 53 #[.int .i64 n] W fun e w' => e = .returned (.string ⟨z.toArray⟩) ∧ Below W.heap.size W w')) :
    Calls Tryz.prog 24 #[.agg #[.int .i64 2, .string ⟨nm.toArray⟩, .int .i64 n, .int .i64 p]] w fun e w' => e = .returned (.string ⟨([97, 116, 111, 109, 32] ++ nm ++ [32, 61, 32] ++ z).toArray⟩) ∧ Below w.heap.size w w' := by
  go_enter Tryz.func24, Tryz.ntmps24
  go_wp2_with fail
  obtain ⟨w1, hw1⟩ : ∃ w1, w1 = w.alloc (.cells #[.int .i64 2, .string ⟨nm.toArray⟩, .int .i64 n, .int .i64 p] 46) := ⟨_, rfl⟩
  rw [← hw1]
  have L1 := later_cell (W := w1) (a := ⟨w.heap.size, 1, none⟩) (x := .string ⟨nm.toArray⟩) (by rw [hw1]; simp) (by rw [hw1]; go_simp)
  have L2 := later_cell (W := w1) (a := ⟨w.heap.size, 2, none⟩) (x := .int .i64 n) (by rw [hw1]; simp) (by rw [hw1]; go_simp)
  have HB : Hid (Below w.heap.size w w1) := by rw [hw1]; exact ba (Below.refl _ _)
  have lw1 : w.heap.size < w1.heap.size := by rw [hw1]; simp
  clear hw1
  have ne : Nonempty (Later w1) := ⟨⟨w1, Below.refl _ _⟩⟩
  have r1 : ¬ 9223372036854775807 < 5 + nm.length := by omega
  have r2 : ¬ 9223372036854775807 < 5 + nm.length + 3 := by omega
  have r3 : ¬ 9223372036854775807 < 5 + nm.length + 3 + z.length := by omega
  refine wp_region_later (by kernel_rfl) (by kernel_rfl) ?_
  repeat (go_big_quiet_step ((go_at_call 53; exact calls_later (H.out (Later.v _) (bl2 HB.out (Later.h _))))))
  refine wpQuiet_nil ?_
  rintro wq ⟨⟨wv, hwq⟩, hE⟩; obtain rfl : wq = wv := hE
  clear L1 L2 ne
  go_wp2_with fail
  go_ret
  exact ⟨ret_str (by simp only [bapp]; rfl), bl2 HB.out hwq⟩
set_option maxHeartbeats 4000000 in
theorem decl_3 (nm z : List UInt8) (n p : Int) (w : World) (hnm : nm.length ≤ 16) (hz : z.length ≤ 20) (H : Hid (∀ W, Below w.heap.size w W → Calls Tryz.prog 54 #[.int .i64 n] W fun e w' => e = .returned (.string ⟨z.toArray⟩) ∧ Below W.heap.size W w')) :
    Calls Tryz.prog 24 #[.agg #[.int .i64 3, .string ⟨nm.toArray⟩, .int .i64 n, .int .i64 p]] w fun e w' => e = .returned (.string ⟨([114, 111, 119, 32] ++ nm ++ [32] ++ z).toArray⟩) ∧ Below w.heap.size w w' := by
  go_enter Tryz.func24, Tryz.ntmps24
  go_wp2_with fail
  obtain ⟨w1, hw1⟩ : ∃ w1, w1 = w.alloc (.cells #[.int .i64 3, .string ⟨nm.toArray⟩, .int .i64 n, .int .i64 p] 46) := ⟨_, rfl⟩
  rw [← hw1]
  have L1 := later_cell (W := w1) (a := ⟨w.heap.size, 1, none⟩) (x := .string ⟨nm.toArray⟩) (by rw [hw1]; simp) (by rw [hw1]; go_simp)
  have L2 := later_cell (W := w1) (a := ⟨w.heap.size, 2, none⟩) (x := .int .i64 n) (by rw [hw1]; simp) (by rw [hw1]; go_simp)
  have HB : Hid (Below w.heap.size w w1) := by rw [hw1]; exact ba (Below.refl _ _)
  have lw1 : w.heap.size < w1.heap.size := by rw [hw1]; simp
  clear hw1
  have ne : Nonempty (Later w1) := ⟨⟨w1, Below.refl _ _⟩⟩
  have r1 : ¬ 9223372036854775807 < 4 + nm.length := by omega
  have r2 : ¬ 9223372036854775807 < 4 + nm.length + 1 := by omega
  have r3 : ¬ 9223372036854775807 < 4 + nm.length + 1 + z.length := by omega
  refine wp_region_later (by kernel_rfl) (by kernel_rfl) ?_
  repeat (go_big_quiet_step ((go_at_call 54; exact calls_later (H.out (Later.v _) (bl2 HB.out (Later.h _))))))
  refine wpQuiet_nil ?_
  rintro wq ⟨⟨wv, hwq⟩, hE⟩; obtain rfl : wq = wv := hE
  clear L1 L2 ne
  go_wp2_with fail
  go_ret
  exact ⟨ret_str (by simp only [bapp]; rfl), bl2 HB.out hwq⟩
theorem decl_any (d : Dl) (h : declB d = true) (B : Nat) (w : World) (hw : Ok B w) (hB : B ≤ w.heap.size) :
    Calls Tryz.prog 24 #[.agg #[.int .i64 d.kind, .string ⟨d.name.toArray⟩, .int .i64 d.n, .int .i64 d.pl]] w fun e w' => e = .returned (.string ⟨(shwD d).toArray⟩) ∧ Below w.heap.size w w' := by
  obtain ⟨h1, h2⟩ := declB_parts h
  have hn := name_len h1
  unfold shwD
  obtain ⟨k, nm, n, p⟩ := d
  simp only at *
  rcases h2 with ⟨rfl | rfl, h3, h4⟩ | ⟨rfl, h3, h4⟩
  · exact decl_1 nm (firstT n) n p w hn (by have := firstT_len h3 h4; omega) fun W hW => first_any n h3 h4 B W (hw.keep (hW.mono hB))
  · exact decl_2 nm (firstT n) n p w hn (by have := firstT_len h3 h4; omega) fun W hW => first_any n h3 h4 B W (hw.keep (hW.mono hB))
  · exact decl_3 nm (Lib.itoa n) n p w hn (by have := itoa_len (n := n) (by omega) (by omega); omega) fun W hW => itoa_any n (by omega) (by omega) B W (hw.keep (hW.mono hB))
end Go.Proofs.YtkljakeccfnakaaGreatDoor

namespace Go.Proofs.YtkljakeccfnakaaGreatDoor
open Go.RowKit

theorem flat_add {α : Type} (f : α → List UInt8) {l : List α} {i : Nat} {y : α} (h : l[i]? = some y) : ((l.take (i + 1)).map f).flatten = ((l.take i).map f).flatten ++ f y := by
  rw [takeX_add h, List.map_append, List.flatten_append]; simp
theorem flat_le {α : Type} (f : α → List UInt8) (l : List α) (i : Nat) : ((l.take i).map f).flatten.length ≤ (l.map f).flatten.length := by
  have h : (l.map f).flatten = ((l.take i).map f).flatten ++ ((l.drop i).map f).flatten := by
    rw [← List.flatten_append, ← List.map_append, List.take_append_drop]
  rw [h, List.length_append]; omega
def dclT (d : Dl) : List UInt8 := shwD d ++ [10]
theorem shwP_eq (ds : List Dl) (es : List Px) : shwP ds es = (ds.map dclT).flatten ++ (es.map domT).flatten := rfl
set_option maxHeartbeats 2000000 in
theorem show_bad (a1 a2 : Option Addr) (n1 c1 n2 c2 : Nat) (w : World) (h : ∀ W, Below w.heap.size w W → Calls Tryz.prog 13 #[.agg #[.slice a1 n1 c1, .slice a2 n2 c2]] W fun e w' => e = .returned (.bool false) ∧ Below W.heap.size W w') :
    Calls Tryz.prog 11 #[.agg #[.slice a1 n1 c1, .slice a2 n2 c2]] w fun e w' => e = .returned (.tuple #[.string ⟨#[]⟩, .int .i64 3]) ∧ Below w.heap.size w w' := by
  have H := Hid.intro h
  clear h
  go_enter Tryz.func11, Tryz.ntmps11
  go_wp2_with (go_at_call 13; refine (H.out _ (ba (Below.refl _ _))).mono ?_; rintro e w2 ⟨rfl, hb2⟩)
  go_ret2
  exact ⟨rfl, bl2 (ba (Below.refl _ _)) hb2⟩
set_option maxHeartbeats 16000000 in
theorem show_good (ds : List Dl) (es : List Px) (a1 a2 : Option Addr) (n1 c1 n2 c2 hi : Nat) (w : World) (h1 : ds.length = n1) (h2 : es.length = n2) (hn1 : n1 ≤ 8) (hn2 : n2 ≤ 3) (h : ∀ W, Below w.heap.size w W → Calls Tryz.prog 13 #[.agg #[.slice a1 n1 c1, .slice a2 n2 c2]] W fun e w' => e = .returned (.bool true) ∧ Below W.heap.size W w')
    (K : Hid (ProgK2 hi w a1 a2 ds es)) (hd : ∀ d ∈ ds, declB d = true) (he : ∀ x ∈ es, wfX x = true) (hw : Ok w.heap.size w) (hl : (shwP ds es).length ≤ 140737488355328) :
    Calls Tryz.prog 11 #[.agg #[.slice a1 n1 c1, .slice a2 n2 c2]] w fun e w' => e = .returned (.tuple #[.string ⟨(shwP ds es).toArray⟩, .int .i64 0]) ∧ Below w.heap.size w w' := by
  have H := Hid.intro h
  have HN := Hid.intro (And.intro h1 h2)
  have HO := Hid.intro hw
  have HG := Hid.intro (And.intro hd he)
  have HL := Hid.intro hl
  clear h h1 h2 hw hd he hl
  go_enter Tryz.func11, Tryz.ntmps11
  go_wp2_with fail
  refine (H.out _ (ba (Below.refl _ _))).mono ?_
  rintro e w1 ⟨rfl, hb1⟩
  have p0 : w1.cell? ⟨w.heap.size, 0, none⟩ = some (.slice a1 n1 c1) := (hb1.cell (p := ⟨w.heap.size, 0, none⟩) (by simp)).trans (by go_simp)
  have p1 : w1.cell? ⟨w.heap.size, 1, none⟩ = some (.slice a2 n2 c2) := (hb1.cell (p := ⟨w.heap.size, 1, none⟩) (by simp)).trans (by go_simp)
  have lw : w.heap.size < w1.heap.size := lt_cell p0
  have HB1 : Hid (Below w.heap.size w w1) := (ba (Below.refl _ _)).trans (hb1.mono (by simp))
  have HF : Hid (Bld w1.heap.size [] (w1.alloc (.cells #[.pointer none, .slice none 0 0] 54))) := Lib.IsBuilderF.of (Lib.fresh_isBuilder 54 5 w1)
  clear hb1 H
  go_wp2_with fail
  obtain ⟨w2, hw2⟩ : ∃ w2, w2 = w1.alloc (.cells #[.pointer none, .slice none 0 0] 54) := ⟨_, rfl⟩
  have HF2 : Hid (Bld w1.heap.size [] w2) := by rw [hw2]; exact HF.out
  have HB2 : Hid (Below w.heap.size w w2) := by show Below _ _ _; rw [hw2]; exact ba HB1.out
  have q1 : w2.cell? ⟨w.heap.size, 1, none⟩ = some (.slice a2 n2 c2) := by rw [hw2, World.cell?_alloc_old _ _ _ (by dsimp only; omega)]; exact p1
  rw [← hw2]
  have lB : w.heap.size < w1.heap.size := lw
  have lB2 : w1.heap.size < w2.heap.size := by rw [hw2]; simp
  clear hw2 HF HB1 p0 p1 lw
  generalize w1.heap.size = B at *
  clear w1
  go_loopw [15] (fun u wr => ∃ (i : Nat), i ≤ n1 ∧ u = .int .i64 i ∧ Hid (Bld B ((ds.take i).map dclT).flatten wr ∧ Wr B w2 wr)) (fun u _ => n1 - (intOf u).toNat)
  case atStart => exact ⟨0, Nat.zero_le _, rfl, by simpa using HF2.out, Wr.refl _ _⟩
  case round =>
    obtain ⟨i, hi', rfl, hs⟩ := hrel
    have x1 : wr.cell? ⟨w.heap.size, 1, none⟩ = some (.slice a2 n2 c2) := (hs.out.2.1.cell (p := ⟨w.heap.size, 1, none⟩) lB).trans q1
    have lx := lt_cell x1
    by_cases c : i < n1
    · have c' : (i : Int) < (n1 : Int) := by omega
      rcases K.out.d with h0 | ⟨b, off, rfl, hR⟩
      · exact absurd HN.out.1 (by rw [h0]; simp; omega)
      obtain ⟨d, hd⟩ : ∃ d, ds[i]? = some d := ⟨_, List.getElem?_eq_getElem (by have := HN.out.1; omega)⟩
      have hbw : Below w.heap.size w wr := HB2.out.trans (hs.out.2.1.mono (Nat.le_of_lt lB))
      have hbl : b < w.heap.size := Nat.lt_of_lt_of_le hR.1 K.out.hhi
      obtain ⟨k0, k1, k2, k3⟩ := hR.2 i d hd
      have K0 := (hbw.cell (p := ⟨b, _, none⟩) hbl).trans k0
      have K1 := (hbw.cell (p := ⟨b, _, none⟩) hbl).trans k1
      have K2 := (hbw.cell (p := ⟨b, _, none⟩) hbl).trans k2
      have K3 := (hbw.cell (p := ⟨b, _, none⟩) hbl).trans k3
      have HD : Hid (ds[i]? = some d) := hd
      have hdB := HG.out.1 d (List.mem_of_getElem? hd)
      have hdl := shwD_len hdB
      have HC : Hid (Calls Tryz.prog 24 #[.agg #[.int .i64 d.kind, .string ⟨d.name.toArray⟩, .int .i64 d.n, .int .i64 d.pl]] (wr.alloc (.cells #[.int .i64 d.kind, .string ⟨d.name.toArray⟩, .int .i64 d.n, .int .i64 d.pl] 46)) fun e w' => e = .returned (.string ⟨(shwD d).toArray⟩) ∧ Below (wr.alloc (.cells #[.int .i64 d.kind, .string ⟨d.name.toArray⟩, .int .i64 d.n, .int .i64 d.pl] 46)).heap.size (wr.alloc (.cells #[.int .i64 d.kind, .string ⟨d.name.toArray⟩, .int .i64 d.n, .int .i64 d.pl] 46)) w') :=
        decl_any d hdB w.heap.size _ (HO.out.keep (ba hbw)) (by have := hbw.size; simp; omega)
      have hbr : b < wr.heap.size := Nat.lt_of_lt_of_le hbl hbw.size
      have HX : Hid (((ds.take (i + 1)).map dclT).flatten = ((ds.take i).map dclT).flatten ++ (shwD d ++ [10])) := flat_add dclT hd
      have HM := Hid.intro (flat_le dclT ds (i + 1))
      clear hR hd k0 k1 k2 k3 hdB hbw
      generalize shwD d = z at *
      go_wp2_with fail
      refine HC.out.mono ?_
      rintro e w3 ⟨rfl, hb3⟩
      have hB1 : Bld B ((ds.take i).map dclT).flatten w3 := (hs.out.1.alloc _).below hb3
      have HW3 : Hid (Wr B wr w3) := (((Wr.refl B wr).alloc (Nat.le_of_lt hs.out.1.lt) _).trans (Wr.of hb3 (by have := hs.out.1.lt; simp; omega)))
      have HBl := Hid.intro hB1
      clear hB1 hb3 K0 K1 K2 K3
      go_wp2_with fail
      refine (wr_any B _ _ w3 HBl.out ?_).mono ?_
      · have h1 := HL.out; have h2 := HM.out
        rw [HX.out] at h2
        rw [shwP_eq] at h1
        rw [Lib.size_eq]
        simp at h1 h2 ⊢
        omega
      rintro e w4 ⟨rfl, hbld, hwr⟩
      go_wp2_with fail
      go_roundw
      case rel =>
        refine ⟨i + 1, by omega, by go_num, ?_, hs.out.2.trans (HW3.out.trans hwr)⟩
        rw [HX.out]
        simpa using hbld
      case measure => simp [intOf]; omega
    · have c' : ¬ (i : Int) < (n1 : Int) := by omega
      have ei : ds.take i = ds := List.take_of_length_le (by have := HN.out.1; omega)
      have HQ : Hid (Bld B (ds.map dclT).flatten wr ∧ Wr B w2 wr) := by have := hs.out; rw [ei] at this; exact this
      clear hs ei
      go_wp2_with fail
      go_loopw [27] (fun u ws => ∃ (i : Nat), i ≤ n2 ∧ u = .int .i64 i ∧ Hid (Bld B ((ds.map dclT).flatten ++ ((es.take i).map domT).flatten) ws ∧ Wr B w2 ws)) (fun u _ => n2 - (intOf u).toNat)
      case atStart => exact ⟨0, Nat.zero_le _, rfl, by simpa using HQ.out.1, HQ.out.2⟩
      clear HQ x1 lx c c' hi'
      case round =>
        rename_i wr0
        obtain ⟨i, hi', rfl, hs⟩ := hrel
        by_cases c : i < n2
        · have c' : (i : Int) < (n2 : Int) := by omega
          rcases K.out.e with h0 | ⟨b, off, rfl, hR⟩
          · exact absurd HN.out.2 (by rw [h0]; simp; omega)
          obtain ⟨y, hy⟩ : ∃ y, es[i]? = some y := ⟨_, List.getElem?_eq_getElem (by have := HN.out.2; omega)⟩
          have hbw : Below w.heap.size w wr := HB2.out.trans (hs.out.2.1.mono (Nat.le_of_lt lB))
          have hbl : b < w.heap.size := Nat.lt_of_lt_of_le hR.1 K.out.hhi
          obtain ⟨ka, cp2, hkc, hky⟩ := hR.2 i y hy
          obtain ⟨HK0, HK1, HK2, HK3, HK4, HK5⟩ := hkc.keep hbw hbl
          have hbr : b < wr.heap.size := Nat.lt_of_lt_of_le hbl hbw.size
          have HX : Hid (((es.take (i + 1)).map domT).flatten = ((es.take i).map domT).flatten ++ ([100, 111, 109, 97, 105, 110, 32] ++ shwX y ++ [32, 101, 110, 100, 10])) := flat_add domT hy
          have HM := Hid.intro (flat_le domT es (i + 1))
          have HC : Hid (∀ (acc : List UInt8) (W : World), Below w.heap.size w W → Bld B acc W → acc.length + (shwX y).length ≤ 140737488355328 → Calls Tryz.prog 25 #[.pointer (some ⟨B, 0, none⟩), .agg #[.int .i64 y.kind, .string ⟨y.text.toArray⟩, .string ⟨y.other.toArray⟩, .int .i64 y.n, .int .i64 y.pl, .slice ka y.kids.length cp2]] W fun e w' => e = .returned (.tuple #[]) ∧ Bld B (acc ++ shwX y) w' ∧ Wr B W w') := fun acc W hW hb hl =>
            write_any _ y _ hi B acc W (Nat.le_refl _) (by have := K.out.hhi; omega) ((HO.out.keep hW).up (Nat.le_of_lt lB)) (hky.keep (hW.mono K.out.hhi)) (HG.out.2 y (List.mem_of_getElem? hy)) hb hl
          have HLL : Hid ((ds.map dclT).flatten.length + (((es.take i).map domT).flatten.length + (7 + (shwX y).length + 5)) ≤ 140737488355328) := by
            have h1 := HL.out; have h2 := HM.out
            rw [HX.out] at h2
            rw [shwP_eq] at h1
            show _ ≤ _
            simp at h1 h2 ⊢
            omega
          have HW := Hid.intro hbw
          clear hkc hky hy hR hbw HM
          generalize y.kids.length = yl at *
          go_wp2_with fail
          have hbx := heap_new wr (.cells #[.int .i64 y.kind, .string ⟨y.text.toArray⟩, .string ⟨y.other.toArray⟩, .int .i64 y.n, .int .i64 y.pl, .slice ka yl cp2] 49)
          refine (wr_any B _ _ _ (hs.out.1.alloc _) ?_).mono ?_
          · have h1 := HLL.out
            rw [Lib.size_eq]
            simp at h1 ⊢
            omega
          rintro e w3 ⟨rfl, hbld, hwr⟩
          have hbx3 := hwr.heap hbx (by decide) (by have := hs.out.1.lt; omega)
          have C0 : w3.cell? ⟨wr.heap.size, 0, none⟩ = some (.int .i64 y.kind) := by rw [Lib.cell_of_heap hbx3]; rfl
          have C1 : w3.cell? ⟨wr.heap.size, 1, none⟩ = some (.string ⟨y.text.toArray⟩) := by rw [Lib.cell_of_heap hbx3]; rfl
          have C2 : w3.cell? ⟨wr.heap.size, 2, none⟩ = some (.string ⟨y.other.toArray⟩) := by rw [Lib.cell_of_heap hbx3]; rfl
          have C3 : w3.cell? ⟨wr.heap.size, 3, none⟩ = some (.int .i64 y.n) := by rw [Lib.cell_of_heap hbx3]; rfl
          have C4 : w3.cell? ⟨wr.heap.size, 4, none⟩ = some (.int .i64 y.pl) := by rw [Lib.cell_of_heap hbx3]; rfl
          have C5 : w3.cell? ⟨wr.heap.size, 5, none⟩ = some (.slice ka yl cp2) := by rw [Lib.cell_of_heap hbx3]; rfl
          have lw3 : wr.heap.size < w3.heap.size := lt_cell C0
          have HW3 : Hid (Wr B wr w3) := ((Wr.refl B wr).alloc (Nat.le_of_lt hs.out.1.lt) _).trans hwr
          have HBl := Hid.intro hbld
          clear hbx hbx3 hwr hbld HK0 HK1 HK2 HK3 HK4 HK5
          go_wp2_with fail
          refine (HC.out _ w3 (HW.out.trans (HW3.out.1.mono (Nat.le_of_lt lB))) HBl.out ?_).mono ?_
          · have h1 := HLL.out
            simp at h1 ⊢
            omega
          rintro e w4 ⟨rfl, hbld, hwr⟩
          have HW4 : Hid (Wr B wr w4) := HW3.out.trans hwr
          have HBl4 := Hid.intro hbld
          clear C0 C1 C2 C3 C4 C5 lw3 HBl HW3 hbld hwr
          go_wp2_with fail
          refine (wr_any B _ _ w4 HBl4.out ?_).mono ?_
          · have h1 := HLL.out
            rw [Lib.size_eq]
            simp at h1 ⊢
            omega
          rintro e w5 ⟨rfl, hbld, hwr⟩
          go_wp2_with fail
          go_roundw
          case rel =>
            refine ⟨i + 1, by omega, by go_num, ?_, hs.out.2.trans (HW4.out.trans hwr)⟩
            rw [HX.out]
            simpa [List.append_assoc] using hbld
          case measure => simp [intOf]; omega
        · have c' : ¬ (i : Int) < (n2 : Int) := by omega
          have ei : es.take i = es := List.take_of_length_le (by have := HN.out.2; omega)
          have HQ : Hid (Bld B (shwP ds es) wr ∧ Wr B w2 wr) := by have := hs.out; rw [ei] at this; rw [shwP_eq]; exact this
          clear hs ei
          go_wp2_with fail
          refine (str_any B _ wr HQ.out.1).mono ?_
          rintro e w5 ⟨rfl, hb5⟩
          go_wp2_with fail
          go_ret2
          exact ⟨rfl, HB2.out.trans ((HQ.out.2.1.trans hb5).mono (Nat.le_of_lt lB))⟩
end Go.Proofs.YtkljakeccfnakaaGreatDoor
