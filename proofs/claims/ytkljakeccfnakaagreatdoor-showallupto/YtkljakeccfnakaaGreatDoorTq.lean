/-
  The walk of shown: the kids that have texts.
  What a formed node's pieces are; the walk of shown at a formed node.
  The walk of write: an expression's text goes into the builder.
-/
import Derived.Test.YtkljakeccfnakaaGreatDoorTb
import Derived.Test.YtkljakeccfnakaaGreatDoorTP
namespace Go.Proofs.YtkljakeccfnakaaGreatDoor
open Go.RowKit

/-- Kids in a row that the call may have made. -/
def KR (hi : Nat) (w : World) (b off : Nat) (l : List Px) : Prop := ∀ j y, l[j]? = some y → ∃ a cp, KidC w b off j y a cp ∧ PxV hi w (pv y a cp) y
/-- What shown tells. -/
def Shown (hi : Nat) (w : World) (l : List Px) (e : Ending) (w' : World) : Prop :=
  Below w.heap.size w w' ∧ ∃ a cap, e = .returned (.slice a l.length cap) ∧ l.length ≤ cap ∧
    (l = [] ∨ ∃ b off, a = some ⟨b, off, none⟩ ∧ KR hi w' b off l ∧ (b < hi ∨ (w.heap.size ≤ b ∧ ∃ c, w'.heap[b]? = some (.cells c 49 (0, 0)))))
set_option maxHeartbeats 4000000 in
theorem shown_all (k : Int) (t o : List UInt8) (n p : Int) (a : Option Addr) (ln cp : Nat) (w : World) (h : k ≠ 24 ∨ n = 3) :
    Calls Tryz.prog 55 #[.agg #[.int .i64 k, .string ⟨t.toArray⟩, .string ⟨o.toArray⟩, .int .i64 n, .int .i64 p, .slice a ln cp]] w fun e w' => e = .returned (.slice a ln cp) ∧ Below w.heap.size w w' := by
  by_cases hk : k = 24
  · subst hk
    obtain rfl : n = 3 := by rcases h with h | h; exact absurd rfl h; exact h
    go_enter Tryz.func55, Tryz.ntmps55
    go_wp2_with fail
    go_ret
    exact ⟨rfl, ba (Below.refl _ _)⟩
  · have q : (k != 24) = true := by rw [bne_iff_ne]; exact hk
    clear h hk
    go_enter Tryz.func55, Tryz.ntmps55
    go_wp2_with fail
    go_ret
    exact ⟨rfl, ba (Below.refl _ _)⟩
theorem heap_new (w : World) (o : Obj) : (w.alloc o).heap[w.heap.size]? = some o := by
  show (w.heap.push o)[w.heap.size]? = some o
  simp
theorem heap_of2 (w : World) (o1 o2 : Obj) : ((w.alloc o1).alloc o2).drew.heap[w.heap.size + 1]? = some o2 := by
  have h := heap_new (w.alloc o1) o2
  have e : (w.alloc o1).heap.size = w.heap.size + 1 := by simp
  rw [e] at h
  exact h
set_option maxHeartbeats 8000000 in
theorem shown_none (t o : List UInt8) (n p : Int) (b off cp hi : Nat) (l : List Px) (y0 y1 : Px) (w : World) (hn : n = 1) (hR : Row hi w b off l) (hhi : hi ≤ w.heap.size) (e0 : l[0]? = some y0) (e1 : l[1]? = some y1) :
    Calls Tryz.prog 55 #[.agg #[.int .i64 24, .string ⟨t.toArray⟩, .string ⟨o.toArray⟩, .int .i64 n, .int .i64 p, .slice (some ⟨b, off, none⟩) 3 cp]] w (Shown hi w [y0, y1]) := by
  obtain ⟨a0, c0, H0, V0⟩ := hR.2 0 y0 e0
  obtain ⟨a1, c1, H1, V1⟩ := hR.2 1 y1 e1
  have bl : b < w.heap.size := Nat.lt_of_lt_of_le hR.1 hhi
  have k00 : w.cell? ⟨b, off, none⟩ = some (.int .i64 y0.kind) := by rw [← show off + 0 * 6 = off by omega]; exact H0.1
  have k01 : w.cell? ⟨b, off + 1, none⟩ = some (.string ⟨y0.text.toArray⟩) := by rw [← show off + 0 * 6 + 1 = off + 1 by omega]; exact H0.2.1
  have k02 : w.cell? ⟨b, off + 2, none⟩ = some (.string ⟨y0.other.toArray⟩) := by rw [← show off + 0 * 6 + 2 = off + 2 by omega]; exact H0.2.2.1
  have k03 : w.cell? ⟨b, off + 3, none⟩ = some (.int .i64 y0.n) := by rw [← show off + 0 * 6 + 3 = off + 3 by omega]; exact H0.2.2.2.1
  have k04 : w.cell? ⟨b, off + 4, none⟩ = some (.int .i64 y0.pl) := by rw [← show off + 0 * 6 + 4 = off + 4 by omega]; exact H0.2.2.2.2.1
  have k05 : w.cell? ⟨b, off + 5, none⟩ = some (.slice a0 y0.kids.length c0) := by rw [← show off + 0 * 6 + 5 = off + 5 by omega]; exact H0.2.2.2.2.2
  have k10 : w.cell? ⟨b, off + 6, none⟩ = some (.int .i64 y1.kind) := by rw [← show off + 1 * 6 = off + 6 by omega]; exact H1.1
  have k11 : w.cell? ⟨b, off + 7, none⟩ = some (.string ⟨y1.text.toArray⟩) := by rw [← show off + 1 * 6 + 1 = off + 7 by omega]; exact H1.2.1
  have k12 : w.cell? ⟨b, off + 8, none⟩ = some (.string ⟨y1.other.toArray⟩) := by rw [← show off + 1 * 6 + 2 = off + 8 by omega]; exact H1.2.2.1
  have k13 : w.cell? ⟨b, off + 9, none⟩ = some (.int .i64 y1.n) := by rw [← show off + 1 * 6 + 3 = off + 9 by omega]; exact H1.2.2.2.1
  have k14 : w.cell? ⟨b, off + 10, none⟩ = some (.int .i64 y1.pl) := by rw [← show off + 1 * 6 + 4 = off + 10 by omega]; exact H1.2.2.2.2.1
  have k15 : w.cell? ⟨b, off + 11, none⟩ = some (.slice a1 y1.kids.length c1) := by rw [← show off + 1 * 6 + 5 = off + 11 by omega]; exact H1.2.2.2.2.2
  have HV : Hid (PxV hi w (pv y0 a0 c0) y0 ∧ PxV hi w (pv y1 a1 c1) y1) := ⟨V0, V1⟩
  clear hR e0 e1 V0 V1 H0 H1
  subst hn
  have HH : Hid (hi ≤ w.heap.size) := hhi
  clear hhi
  generalize l0 : y0.kids.length = n0 at *
  generalize l1 : y1.kids.length = n1 at *
  have HL : Hid (y0.kids.length = n0 ∧ y1.kids.length = n1) := ⟨l0, l1⟩
  clear l0 l1
  go_enter Tryz.func55, Tryz.ntmps55
  go_wp2_with fail
  go_region
  all_goals
    simp only [Exit.then]
    go_wp2_with fail
    go_ret
    have HB : Below w.heap.size w ((w.alloc (.cells #[.int .i64 24, .string ⟨t.toArray⟩, .string ⟨o.toArray⟩, .int .i64 1, .int .i64 p, .slice (some ⟨b, off, none⟩) 3 cp] 49)).alloc (.cells #[.int .i64 y0.kind, .string ⟨y0.text.toArray⟩, .string ⟨y0.other.toArray⟩, .int .i64 y0.n, .int .i64 y0.pl, .slice a0 n0 c0, .int .i64 y1.kind, .string ⟨y1.text.toArray⟩, .string ⟨y1.other.toArray⟩, .int .i64 y1.n, .int .i64 y1.pl, .slice a1 n1 c1] 49)).drew := (ba (ba (Below.refl _ _))).drew
    refine ⟨HB, _, _, rfl, Nat.le_refl _, Or.inr ⟨w.heap.size + 1, 0, by first | rfl | simp, ?_, Or.inr ⟨Nat.le_succ _, _, heap_of2 _ _ _⟩⟩⟩
    intro j y hj
    match j, hj with
    | 0, hj =>
      simp only [List.getElem?_cons_zero, Option.some.injEq] at hj
      subst hj
      refine ⟨a0, c0, ?_, HV.out.1.keep (HB.mono HH.out)⟩
      unfold KidC
      rw [HL.out.1]
      refine ⟨?_, ?_, ?_, ?_, ?_, ?_⟩ <;> go_simp
    | 1, hj =>
      simp only [List.getElem?_cons_succ, List.getElem?_cons_zero, Option.some.injEq] at hj
      subst hj
      refine ⟨a1, c1, ?_, HV.out.2.keep (HB.mono HH.out)⟩
      unfold KidC
      rw [HL.out.2]
      refine ⟨?_, ?_, ?_, ?_, ?_, ?_⟩ <;> go_simp
set_option maxHeartbeats 8000000 in
theorem shown_some (t o : List UInt8) (n p : Int) (b off cp hi : Nat) (l : List Px) (y0 y2 : Px) (w : World) (hn : n ≠ 1 ∧ n ≠ 3) (hR : Row hi w b off l) (hhi : hi ≤ w.heap.size) (e0 : l[0]? = some y0) (e2 : l[2]? = some y2) :
    Calls Tryz.prog 55 #[.agg #[.int .i64 24, .string ⟨t.toArray⟩, .string ⟨o.toArray⟩, .int .i64 n, .int .i64 p, .slice (some ⟨b, off, none⟩) 3 cp]] w (Shown hi w [y0, y2]) := by
  obtain ⟨a0, c0, H0, V0⟩ := hR.2 0 y0 e0
  obtain ⟨a2, c2, H2, V2⟩ := hR.2 2 y2 e2
  have bl : b < w.heap.size := Nat.lt_of_lt_of_le hR.1 hhi
  have k00 : w.cell? ⟨b, off, none⟩ = some (.int .i64 y0.kind) := by rw [← show off + 0 * 6 = off by omega]; exact H0.1
  have k01 : w.cell? ⟨b, off + 1, none⟩ = some (.string ⟨y0.text.toArray⟩) := by rw [← show off + 0 * 6 + 1 = off + 1 by omega]; exact H0.2.1
  have k02 : w.cell? ⟨b, off + 2, none⟩ = some (.string ⟨y0.other.toArray⟩) := by rw [← show off + 0 * 6 + 2 = off + 2 by omega]; exact H0.2.2.1
  have k03 : w.cell? ⟨b, off + 3, none⟩ = some (.int .i64 y0.n) := by rw [← show off + 0 * 6 + 3 = off + 3 by omega]; exact H0.2.2.2.1
  have k04 : w.cell? ⟨b, off + 4, none⟩ = some (.int .i64 y0.pl) := by rw [← show off + 0 * 6 + 4 = off + 4 by omega]; exact H0.2.2.2.2.1
  have k05 : w.cell? ⟨b, off + 5, none⟩ = some (.slice a0 y0.kids.length c0) := by rw [← show off + 0 * 6 + 5 = off + 5 by omega]; exact H0.2.2.2.2.2
  have k20 : w.cell? ⟨b, off + 12, none⟩ = some (.int .i64 y2.kind) := by rw [← show off + 2 * 6 = off + 12 by omega]; exact H2.1
  have k21 : w.cell? ⟨b, off + 13, none⟩ = some (.string ⟨y2.text.toArray⟩) := by rw [← show off + 2 * 6 + 1 = off + 13 by omega]; exact H2.2.1
  have k22 : w.cell? ⟨b, off + 14, none⟩ = some (.string ⟨y2.other.toArray⟩) := by rw [← show off + 2 * 6 + 2 = off + 14 by omega]; exact H2.2.2.1
  have k23 : w.cell? ⟨b, off + 15, none⟩ = some (.int .i64 y2.n) := by rw [← show off + 2 * 6 + 3 = off + 15 by omega]; exact H2.2.2.2.1
  have k24 : w.cell? ⟨b, off + 16, none⟩ = some (.int .i64 y2.pl) := by rw [← show off + 2 * 6 + 4 = off + 16 by omega]; exact H2.2.2.2.2.1
  have k25 : w.cell? ⟨b, off + 17, none⟩ = some (.slice a2 y2.kids.length c2) := by rw [← show off + 2 * 6 + 5 = off + 17 by omega]; exact H2.2.2.2.2.2
  have HV : Hid (PxV hi w (pv y0 a0 c0) y0 ∧ PxV hi w (pv y2 a2 c2) y2) := ⟨V0, V2⟩
  clear hR e0 e2 V0 V2 H0 H2
  have q1 : (n == 1) = false := by rw [beq_eq_false_iff_ne]; exact hn.1
  have q3 : (n == 3) = false := by rw [beq_eq_false_iff_ne]; exact hn.2
  clear hn
  have HH : Hid (hi ≤ w.heap.size) := hhi
  clear hhi
  generalize l0 : y0.kids.length = n0 at *
  generalize l1 : y2.kids.length = n1 at *
  have HL : Hid (y0.kids.length = n0 ∧ y2.kids.length = n1) := ⟨l0, l1⟩
  clear l0 l1
  go_enter Tryz.func55, Tryz.ntmps55
  go_wp2_with fail
  go_region
  all_goals
    simp only [Exit.then]
    go_wp2_with fail
    go_ret
    have HB : Below w.heap.size w ((w.alloc (.cells #[.int .i64 24, .string ⟨t.toArray⟩, .string ⟨o.toArray⟩, .int .i64 n, .int .i64 p, .slice (some ⟨b, off, none⟩) 3 cp] 49)).alloc (.cells #[.int .i64 y0.kind, .string ⟨y0.text.toArray⟩, .string ⟨y0.other.toArray⟩, .int .i64 y0.n, .int .i64 y0.pl, .slice a0 n0 c0, .int .i64 y2.kind, .string ⟨y2.text.toArray⟩, .string ⟨y2.other.toArray⟩, .int .i64 y2.n, .int .i64 y2.pl, .slice a2 n1 c2] 49)).drew := (ba (ba (Below.refl _ _))).drew
    refine ⟨HB, _, _, rfl, Nat.le_refl _, Or.inr ⟨w.heap.size + 1, 0, by first | rfl | simp, ?_, Or.inr ⟨Nat.le_succ _, _, heap_of2 _ _ _⟩⟩⟩
    intro j y hj
    match j, hj with
    | 0, hj =>
      simp only [List.getElem?_cons_zero, Option.some.injEq] at hj
      subst hj
      refine ⟨a0, c0, ?_, HV.out.1.keep (HB.mono HH.out)⟩
      unfold KidC
      rw [HL.out.1]
      refine ⟨?_, ?_, ?_, ?_, ?_, ?_⟩ <;> go_simp
    | 1, hj =>
      simp only [List.getElem?_cons_succ, List.getElem?_cons_zero, Option.some.injEq] at hj
      subst hj
      refine ⟨a2, c2, ?_, HV.out.2.keep (HB.mono HH.out)⟩
      unfold KidC
      rw [HL.out.2]
      refine ⟨?_, ?_, ?_, ?_, ?_, ?_⟩ <;> go_simp
end Go.Proofs.YtkljakeccfnakaaGreatDoor

namespace Go.Proofs.YtkljakeccfnakaaGreatDoor
open Go.RowKit

theorem name_len {t : List UInt8} (h : isNameB t = true) : t.length ≤ 16 := by
  unfold isNameB at h
  simp only [Bool.and_eq_true, decide_eq_true_iff] at h
  exact h.1.2
theorem name_all {t : List UInt8} (h : isNameB t = true) : ∀ c ∈ t, nameC c = true := by
  unfold isNameB at h
  simp only [Bool.and_eq_true] at h
  exact List.all_eq_true.1 h.1.1.2
theorem name_no36 {t : List UInt8} (h : isNameB t = true) : (36 : UInt8) ∉ t := fun hm => by
  have := name_all h 36 hm
  revert this; decide
theorem op_cases {t : List UInt8} (h : opB t = true) : t = [43] ∨ t = [45] ∨ t = [42] ∨ t = [47] := by
  unfold opB at h
  rw [List.contains_iff_mem] at h
  simpa using h
theorem dig_mem (c : UInt8) (u : Nat) (h : c ∈ Lib.decDigits u) : 48 ≤ c.toNat ∧ c.toNat ≤ 57 := by
  induction u using Nat.strongRecOn with
  | _ u ih =>
    rw [Lib.decDigits] at h
    split at h
    · simp only [List.mem_cons, List.not_mem_nil, or_false] at h
      subst h
      have : (UInt8.ofNat (48 + u)).toNat = 48 + u := by simp; omega
      omega
    · rename_i hu
      rw [List.mem_append] at h
      rcases h with h | h
      · exact ih (u / 10) (by omega) h
      · simp only [List.mem_cons, List.not_mem_nil, or_false] at h
        subst h
        have : (UInt8.ofNat (48 + u % 10)).toNat = 48 + u % 10 := by simp; omega
        omega
theorem itoa_no36 {n : Int} (h : 0 ≤ n) : (36 : UInt8) ∉ Lib.itoa n := fun hm => by
  unfold Lib.itoa at hm
  rw [if_neg (by omega)] at hm
  have := dig_mem 36 _ hm
  revert this; decide
theorem node_parts {k : Int} {t o : List UInt8} {n : Int} {l : List Px} (h : nodeB k t o n l = true) : (l.length : Int) = kidsN k ∧ textB k t n = true ∧ otherB k o = true ∧ numB k n = true ∧ armsB k n l = true := by
  unfold nodeB at h
  simp only [Bool.and_eq_true, beq_iff_eq] at h
  exact ⟨h.1.1.1.1, h.1.1.1.2, h.1.1.2, h.1.2, h.2⟩
theorem text_len {k : Int} {t : List UInt8} {n : Int} (h : textB k t n = true) : t.length ≤ 16 := by
  unfold textB at h
  split at h
  · exact name_len h
  · split at h
    · rcases op_cases h with rfl | rfl | rfl | rfl <;> decide
    · split at h
      · exact name_len h
      · rw [beq_iff_eq] at h; subst h; decide
theorem other_len {k : Int} {o : List UInt8} (h : otherB k o = true) : o.length ≤ 16 := by
  unfold otherB at h
  split at h
  · exact name_len h
  · rw [beq_iff_eq] at h; subst h; decide
theorem text_no36 {k : Int} {t : List UInt8} {n : Int} (h : textB k t n = true) : (36 : UInt8) ∉ t := by
  unfold textB at h
  split at h
  · exact name_no36 h
  · split at h
    · rcases op_cases h with rfl | rfl | rfl | rfl <;> decide
    · split at h
      · exact name_no36 h
      · rw [beq_iff_eq] at h; subst h; decide
theorem other_no36 {k : Int} {o : List UInt8} (h : otherB k o = true) : (36 : UInt8) ∉ o := by
  unfold otherB at h
  split at h
  · exact name_no36 h
  · rw [beq_iff_eq] at h; subst h; decide
theorem num_one {n : Int} (h : numB 1 n = true) : 0 ≤ n ∧ n ≤ 999999999 := by
  simpa [numB] using h
theorem num_opt {n : Int} (h : numB 24 n = true) : 1 ≤ n ∧ n ≤ 3 := by
  simpa [numB] using h
theorem node_pat {k : Int} {t o : List UInt8} {n : Int} {l : List Px} (h : nodeB k t o n l = true) : PatOk k t o n := by
  obtain ⟨_, h2, h3, h4, _⟩ := node_parts h
  exact ⟨text_len h2, other_len h3, (node_kind h).1, (node_kind h).2, fun e => num_one (by rw [← e]; exact h4)⟩
theorem pcs_no36 {k : Int} {t o : List UInt8} {n : Int} {l : List Px} (h : nodeB k t o n l = true) : ∀ q ∈ pcs k t o n, (36 : UInt8) ∉ q := by
  obtain ⟨_, h2, h3, h4, _⟩ := node_parts h
  have ht := text_no36 h2
  have ho := other_no36 h3
  have hk := node_kind h
  by_cases k24 : k = 24
  · subst k24
    have hn := num_opt h4
    have : n = 1 ∨ n = 2 ∨ n = 3 := by omega
    rcases this with rfl | rfl | rfl <;> simp [pcs, *]
  rcases kinds25 hk.1 hk.2 with rfl | rfl | rfl | rfl | rfl | rfl | rfl | rfl | rfl | rfl | rfl | rfl | rfl | rfl | rfl | rfl | rfl | rfl | rfl | rfl | rfl | rfl | rfl | rfl | rfl
  case inl => simp [pcs]; exact itoa_no36 (num_one h4).1
  case inr.inl => simp only [pcs]; intro q hq; simp at hq; subst hq; split <;> decide
  all_goals first | exact absurd rfl k24 | (simp [pcs, *]; done)
theorem pick_len {k : Int} {t o : List UInt8} {n : Int} {l : List Px} (h : nodeB k t o n l = true) {α : Type} {m : List α} (hm : m.length = l.length) : (pcs k t o n).length = (pick3 k n m).length + 1 := by
  obtain ⟨h1, h2, h3, h4, _⟩ := node_parts h
  rw [← hm] at h1
  have hk := node_kind h
  rcases kinds25 hk.1 hk.2 with rfl | rfl | rfl | rfl | rfl | rfl | rfl | rfl | rfl | rfl | rfl | rfl | rfl | rfl | rfl | rfl | rfl | rfl | rfl | rfl | rfl | rfl | rfl | rfl | rfl
  case inr.inr.inr.inr.inr.inr.inr.inr.inr.inr.inr.inr.inr.inr.inr.inr.inr.inr.inr.inr.inr.inr.inr.inl =>
    have hn := num_opt h4
    have e3 : m.length = 3 := by rw [show kidsN 24 = 3 from rfl] at h1; omega
    match m, e3 with
    | [a, b, c], _ =>
      have : n = 1 ∨ n = 2 ∨ n = 3 := by omega
      rcases this with rfl | rfl | rfl <;> rfl
  all_goals
    have e : (m.length : Int) = _ := h1
    simp [kidsN] at e
    simp [pcs, pick3]
    omega
theorem shown_any {hi : Nat} {w : World} {x : Px} {v : Value} (h : PxV hi w v x) (hhi : hi ≤ w.heap.size) (hn : nodeB x.kind x.text x.other x.n x.kids = true) :
    Calls Tryz.prog 55 #[v] w (Shown hi w (pick3 x.kind x.n x.kids)) := by
  obtain ⟨a, cap, rfl, hcap, hlen, hab⟩ := h.row
  obtain ⟨h1, h2, h3, h4, _⟩ := node_parts hn
  by_cases hq : x.kind ≠ 24 ∨ x.n = 3
  · have e : pick3 x.kind x.n x.kids = x.kids := by
      unfold pick3
      split
      · rename_i hk
        have hn3 : x.n = 3 := by rcases hq with h | h; exact absurd hk h; exact h
        rw [hn3]; rfl
      · rfl
    rw [e]
    refine (shown_all x.kind x.text x.other x.n x.pl a x.kids.length cap w hq).mono ?_
    rintro e w' ⟨rfl, hb⟩
    refine ⟨hb, a, cap, rfl, hcap, hab.imp id ?_⟩
    rintro ⟨b, off, ea, hR⟩
    exact ⟨b, off, ea, (hR.keep (hb.mono hhi)).2, Or.inl hR.1⟩
  · have hk : x.kind = 24 := Classical.byContradiction fun e => hq (Or.inl e)
    have hn3 : x.n ≠ 3 := fun e => hq (Or.inr e)
    obtain ⟨kd, tx, ot, nn, pp, l⟩ := x
    simp only [Px.kind, Px.n, Px.kids, Px.text, Px.other] at *
    subst hk
    have hl : l.length = 3 := by rw [show kidsN 24 = 3 from rfl] at h1; omega
    rcases hab with h0 | ⟨b, off, rfl, hR⟩
    · rw [h0] at hl; cases hl
    match l, hl with
    | [y0, y1, y2], _ =>
      by_cases hn1 : nn = 1
      · subst hn1
        exact shown_none tx ot 1 pp b off cap hi [y0, y1, y2] y0 y1 w rfl hR hhi rfl rfl
      · have e : pick3 24 nn [y0, y1, y2] = [y0, y2] := by unfold pick3; rw [if_pos rfl, if_neg hn1, if_neg hn3]; rfl
        rw [e]
        exact shown_some tx ot nn pp b off cap hi [y0, y1, y2] y0 y2 w ⟨hn1, hn3⟩ hR hhi rfl rfl
end Go.Proofs.YtkljakeccfnakaaGreatDoor

namespace Go.Proofs.YtkljakeccfnakaaGreatDoor
open Go.RowKit

theorem pick_map {α β : Type} (f : α → β) (k n : Int) (l : List α) : pick3 k n (l.map f) = (pick3 k n l).map f := by
  unfold pick3
  split
  · split
    · match l with
      | [] => rfl
      | [a] => rfl
      | a :: b :: r => rfl
    · split
      · rfl
      · match l with
        | [] => rfl
        | [a] => rfl
        | [a, b] => rfl
        | a :: b :: c :: r => rfl
  · rfl
theorem pick_mem {α : Type} {k n : Int} {l : List α} {x : α} (h : x ∈ pick3 k n l) : x ∈ l := by
  unfold pick3 at h
  split at h
  · split at h
    · simp only [List.filterMap_cons, List.filterMap_nil, id] at h
      match l with
      | [] => simp at h
      | [a] => simpa using h
      | a :: b :: r => simp at h; rcases h with rfl | rfl <;> simp
    · split at h
      · exact h
      · simp only [List.filterMap_cons, List.filterMap_nil, id] at h
        match l with
        | [] => simp at h
        | [a] => simpa using h
        | [a, b] => simp at h; subst h; simp
        | a :: b :: c :: r => simp at h; rcases h with rfl | rfl <;> simp
  · exact h
theorem shw_eq (x : Px) : shwX x = wv (pcs x.kind x.text x.other x.n) ((pick3 x.kind x.n x.kids).map shwX) (pcs x.kind x.text x.other x.n).length := by
  obtain ⟨k, t, o, n, p, l⟩ := x
  rw [shwX, shwXL_map, pick_map]
  rfl
theorem wv_succ (ps ts : List (List UInt8)) (i : Nat) : wv ps ts (i + 1) = wv ps ts i ++ ((if i = 0 then [] else ts.getD (i - 1) []) ++ ps.getD i []) := rfl
theorem wv_mono (ps ts : List (List UInt8)) : ∀ {i j : Nat}, i ≤ j → (wv ps ts i).length ≤ (wv ps ts j).length := by
  intro i j h
  induction j with
  | zero => obtain rfl : i = 0 := by omega
            exact Nat.le_refl _
  | succ j ih =>
    by_cases e : i = j + 1
    · subst e; exact Nat.le_refl _
    · refine Nat.le_trans (ih (by omega)) ?_
      rw [wv_succ, List.length_append]; omega
/-- The kids' row, wherever it lies. -/
def Kid (B hi : Nat) (w : World) (a : Option Addr) (l : List Px) : Prop :=
  l = [] ∨ ∃ b off, a = some ⟨b, off, none⟩ ∧ KR hi w b off l ∧ (b < hi ∨ (b ≠ B ∧ ∃ c, w.heap[b]? = some (.cells c 49 (0, 0))))
theorem Kid.wr {B hi : Nat} {w w' : World} {a : Option Addr} {l : List Px} (h : Kid B hi w a l) (hB : hi ≤ B) (hw : Wr B w w') : Kid B hi w' a l := by
  refine h.imp id ?_
  rintro ⟨b, off, e, hk, hb⟩
  rcases hb with hb | ⟨hne, c, hc⟩
  · exact ⟨b, off, e, fun j y hj => (hk j y hj).elim fun a1 ⟨cp, h1, h2⟩ => ⟨a1, cp, h1.keep (hw.1.mono hB) hb, h2.keep (hw.1.mono hB)⟩, Or.inl hb⟩
  · have hc' := hw.heap hc (by decide) hne
    have eb : w'.heap[b]? = w.heap[b]? := hc'.trans hc.symm
    refine ⟨b, off, e, fun j y hj => ?_, Or.inr ⟨hne, c, hc'⟩⟩
    obtain ⟨a1, cp, ⟨h0, h1, h2, h3, h4, h5⟩, hv⟩ := hk j y hj
    exact ⟨a1, cp, ⟨(cell_of_block eb).trans h0, (cell_of_block eb).trans h1, (cell_of_block eb).trans h2, (cell_of_block eb).trans h3, (cell_of_block eb).trans h4, (cell_of_block eb).trans h5⟩, hv.keep (hw.1.mono hB)⟩
/-- The pieces' row. -/
def Pcs (w : World) (s : Nat) (ps : List (List UInt8)) : Prop := w.heap[s]? = some (.cells (ps.map fun q => Value.string ⟨q.toArray⟩).toArray 9 (0, 0))
theorem Pcs.wr {B : Nat} {w w' : World} {s : Nat} {ps : List (List UInt8)} (h : Pcs w s ps) (hw : Wr B w w') (hs : s ≠ B) : Pcs w' s ps := hw.heap h (by decide) hs
theorem Pcs.at {w : World} {s : Nat} {ps : List (List UInt8)} (h : Pcs w s ps) {i : Nat} (hi : i < ps.length) : w.cell? ⟨s, i, none⟩ = some (.string ⟨(ps.getD i []).toArray⟩) := by
  have e : w.cell? ⟨s, i, none⟩ = (ps.map fun q => Value.string ⟨q.toArray⟩).toArray[i]? := Lib.cell_of_heap h i
  rw [e, List.getElem?_toArray, List.getElem?_map, List.getElem?_eq_getElem hi, List.getD_eq_getElem?_getD, List.getElem?_eq_getElem hi]
  rfl
/-- What write's loop is handed. -/
structure WrK (B hi : Nat) (ps : List (List UInt8)) (l : List Px) : Prop where
  len : ps.length = l.length + 1
  calls : ∀ (j : Nat) (y : Px) (u : Value) (acc : List UInt8) (W : World), l[j]? = some y → Ok B W → PxV hi W u y → Bld B acc W → acc.length + (shwX y).length ≤ 140737488355328 → Calls Tryz.prog 25 #[.pointer (some ⟨B, 0, none⟩), u] W fun e w' => e = .returned (.tuple #[]) ∧ Bld B (acc ++ shwX y) w' ∧ Wr B W w'

set_option maxHeartbeats 16000000 in
theorem write_walk (kd nn pp : Int) (t o : List UInt8) (a : Option Addr) (ln cp B hi : Nat) (acc p : List UInt8) (ps : List (List UInt8)) (l : List Px) (w : World) (hhi : hi ≤ B) (hw : Ok B w) (hb0 : Bld B acc w)
    (hs : Calls Tryz.prog 55 #[.agg #[.int .i64 kd, .string ⟨t.toArray⟩, .string ⟨o.toArray⟩, .int .i64 nn, .int .i64 pp, .slice a ln cp]] (w.alloc (.cells #[.int .i64 kd, .string ⟨t.toArray⟩, .string ⟨o.toArray⟩, .int .i64 nn, .int .i64 pp, .slice a ln cp] 49)) (Shown hi (w.alloc (.cells #[.int .i64 kd, .string ⟨t.toArray⟩, .string ⟨o.toArray⟩, .int .i64 nn, .int .i64 pp, .slice a ln cp] 49)) l))
    (hp : ∀ W, Ok B W → B ≤ W.heap.size → Calls Tryz.prog 57 #[.agg #[.int .i64 kd, .string ⟨t.toArray⟩, .string ⟨o.toArray⟩, .int .i64 nn, .int .i64 pp, .slice a ln cp]] W fun e w' => e = .returned (.string ⟨(joined 36 (p :: ps)).toArray⟩) ∧ Below W.heap.size W w')
    (h36 : ∀ q ∈ p :: ps, (36 : UInt8) ∉ q) (hj : (joined 36 (p :: ps)).length < 4294967281) (K : WrK B hi (p :: ps) l) (hl : acc.length + (wv (p :: ps) (l.map shwX) (ps.length + 1)).length ≤ 140737488355328) (hps : ps.length ≤ 10) :
    Calls Tryz.prog 25 #[.pointer (some ⟨B, 0, none⟩), .agg #[.int .i64 kd, .string ⟨t.toArray⟩, .string ⟨o.toArray⟩, .int .i64 nn, .int .i64 pp, .slice a ln cp]] w fun e w' => e = .returned (.tuple #[]) ∧ Bld B (acc ++ wv (p :: ps) (l.map shwX) (ps.length + 1)) w' ∧ Wr B w w' := by
  have HW := Hid.intro (And.intro hw (And.intro hb0 hhi))
  have HS := Hid.intro hs
  have HP := Hid.intro hp
  have HJ := Hid.intro (And.intro h36 hj)
  have HK := Hid.intro K
  have HL := Hid.intro hl
  have hBw := hb0.lt
  clear hw hb0 hhi hs hp h36 hj K hl
  go_enter Tryz.func25, Tryz.ntmps25
  go_wp2_with fail
  refine HS.out.mono ?_
  rintro e w1 ⟨hb1, a1, cap1, rfl, hcap1, hk1⟩
  have b0 : w1.cell? ⟨w.heap.size, 0, none⟩ = some (.int .i64 kd) := (hb1.cell (p := ⟨w.heap.size, 0, none⟩) (by simp)).trans (by go_simp)
  have b1 : w1.cell? ⟨w.heap.size, 1, none⟩ = some (.string ⟨t.toArray⟩) := (hb1.cell (p := ⟨w.heap.size, 1, none⟩) (by simp)).trans (by go_simp)
  have b2 : w1.cell? ⟨w.heap.size, 2, none⟩ = some (.string ⟨o.toArray⟩) := (hb1.cell (p := ⟨w.heap.size, 2, none⟩) (by simp)).trans (by go_simp)
  have b3 : w1.cell? ⟨w.heap.size, 3, none⟩ = some (.int .i64 nn) := (hb1.cell (p := ⟨w.heap.size, 3, none⟩) (by simp)).trans (by go_simp)
  have b4 : w1.cell? ⟨w.heap.size, 4, none⟩ = some (.int .i64 pp) := (hb1.cell (p := ⟨w.heap.size, 4, none⟩) (by simp)).trans (by go_simp)
  have b5 : w1.cell? ⟨w.heap.size, 5, none⟩ = some (.slice a ln cp) := (hb1.cell (p := ⟨w.heap.size, 5, none⟩) (by simp)).trans (by go_simp)
  have lw : w.heap.size < w1.heap.size := lt_cell b0
  have HB1 : Hid (Below w.heap.size w w1) := (ba (Below.refl _ _)).trans (hb1.mono (by simp))
  have hsz1 : (w.alloc (.cells #[.int .i64 kd, .string ⟨t.toArray⟩, .string ⟨o.toArray⟩, .int .i64 nn, .int .i64 pp, .slice a ln cp] 49)).heap.size = w.heap.size + 1 := by simp
  rw [hsz1] at hk1
  have HK1 : Hid (Kid B hi w1 a1 l) := hk1.imp id fun ⟨b, off, ea, hkr, hh⟩ => ⟨b, off, ea, hkr, hh.imp id fun ⟨h1, h2⟩ => ⟨(by omega), h2⟩⟩
  clear hsz1
  clear hb1 hk1 HS
  generalize hln : l.length = n1 at *
  have HN : Hid (l.length = n1) := hln
  clear hln
  go_wp2_with fail
  refine (HP.out w1 (HW.out.1.keep (HB1.out.mono (Nat.le_of_lt hBw))) (by have := HB1.out.size; omega)).mono ?_
  rintro e w2 ⟨rfl, hb2⟩
  have HB2 : Hid (Below w.heap.size w w2) := bl2 HB1.out hb2
  have HK2 : Hid (Kid B hi w2 a1 l) := HK1.out.wr HW.out.2.2 (Wr.of hb2 (by omega))
  have lB : B < w2.heap.size := Nat.lt_of_lt_of_le hBw HB2.out.size
  clear hb2 b0 b1 b2 b3 b4 b5 lw HK1
  go_wp2_with fail
  refine (split_any 36 p ps HJ.out.1 B w2 (HW.out.1.keep (HB2.out.mono (Nat.le_of_lt hBw))) HJ.out.2).mono ?_
  rintro e w3 ⟨rfl, hw3⟩
  have HR3 : Hid (Pcs w3 w2.heap.size (p :: ps)) := by show Pcs _ _ _; rw [hw3]; exact heap_new _ _
  have HB3 : Hid (Below w.heap.size w w3) := by show Below _ _ _; rw [hw3]; exact ba HB2.out
  have HK3 : Hid (Kid B hi w3 a1 l) := by show Kid _ _ _ _ _; rw [hw3]; exact HK2.out.wr HW.out.2.2 (Wr.of ((Below.refl _ _).alloc (Nat.le_refl _) _) (Nat.le_of_lt lB))
  generalize w2.heap.size = s at *
  clear hw3 HK2 HB2
  have hsB : s ≠ B := by omega
  go_wp2_with fail
  go_loopw [13] (fun u wr => ∃ (i : Nat), i ≤ ps.length + 1 ∧ u = .int .i64 i ∧ Hid (Bld B (acc ++ wv (p :: ps) (l.map shwX) i) wr ∧ Wr B w wr ∧ Pcs wr s (p :: ps) ∧ Kid B hi wr a1 l)) (fun u _ => ps.length + 1 - (intOf u).toNat)
  case atStart => exact ⟨0, Nat.zero_le _, rfl, by show Bld B (acc ++ []) _; rw [List.append_nil]; exact HW.out.2.1.below HB3.out, Wr.of HB3.out (Nat.le_of_lt hBw), HR3.out, HK3.out⟩
  case round =>
    obtain ⟨i, hi', rfl, hs⟩ := hrel
    clear HR3 HB3 HK3
    by_cases c : i < ps.length + 1
    · have c' : (i : Int) < (ps.length : Int) + 1 := by omega
      have k0 := hs.out.2.2.1.at (i := i) (by simp; omega)
      have ls : s < wr.heap.size := lt_cell k0
      obtain ⟨q, hq⟩ : ∃ q, (p :: ps).getD i [] = q := ⟨_, rfl⟩
      have HQ : Hid ((p :: ps).getD i [] = q) := hq
      rw [hq] at k0
      clear hq
      have hfin := wv_mono (p :: ps) (l.map shwX) (i := i + 1) (j := ps.length + 1) (by omega)
      have HF := Hid.intro hfin
      clear hfin
      by_cases i0 : i = 0
      · subst i0
        go_wp2_with fail
        refine (wr_any B _ _ wr hs.out.1 ?_).mono ?_
        · have h1 := HL.out; have h2 := HF.out
          have e0 : wv (p :: ps) (l.map shwX) (0 + 1) = q := by rw [wv_succ, HQ.out, if_pos rfl]; simp [wv]
          rw [e0] at h2
          rw [Lib.size_eq]
          simp only [wv, List.append_nil]
          omega
        rintro e w4 ⟨rfl, hbld, hwr⟩
        go_wp2_with fail
        go_roundw
        case rel => exact ⟨1, by omega, by go_num, by rw [wv_succ, HQ.out, if_pos rfl, ← List.append_assoc]; simpa [wv] using hbld, hs.out.2.1.trans hwr, hs.out.2.2.1.wr hwr hsB, hs.out.2.2.2.wr HW.out.2.2 hwr⟩
        case measure => simp [intOf]
      · have hQ := HQ.out
        obtain ⟨j, hj⟩ : ∃ j, i = j + 1 := ⟨i - 1, by omega⟩
        have g : (i : Int) > 0 := by omega
        have hz : IntKind.i64.wrap ((i : Int) - 1) = (j : Int) := by rw [hj, IntKind.wrap_i64]; omega
        have hjn : j < n1 := by
          have h1 := HK.out.len
          have h2 := HN.out
          simp only [List.length_cons] at h1
          omega
        have hjc : (j : Int) < (n1 : Int) := by omega
        have HI : Hid (i = j + 1) := hj
        rcases hs.out.2.2.2 with h0 | ⟨b, off, rfl, hkr, hbb⟩
        · exact absurd HN.out (by rw [h0]; simp; omega)
        obtain ⟨y, hy⟩ : ∃ y, l[j]? = some y := ⟨_, List.getElem?_eq_getElem (by have := HN.out; omega)⟩
        obtain ⟨ka, cp2, ⟨HK0, HK1, HK2, HK3, HK4, HK5⟩, hky⟩ := hkr j y hy
        have lb : b < wr.heap.size := lt_cell HK0
        have hTy : (l.map shwX).getD (i - 1) [] = shwX y := by
          rw [hj, Nat.add_sub_cancel, List.getD_eq_getElem?_getD, List.getElem?_map, hy]; rfl
        have hlen2 : acc.length + ((wv (p :: ps) (l.map shwX) i).length + ((shwX y).length + q.length)) ≤ 140737488355328 := by
          have h1 := HL.out; have h2 := HF.out
          rw [wv_succ, if_neg i0, hTy, hQ] at h2
          simp only [List.length_append] at h2
          omega
        have HY : Hid (wv (p :: ps) (l.map shwX) (i + 1) = wv (p :: ps) (l.map shwX) i ++ (shwX y ++ q)) := by show _ = _; rw [wv_succ, if_neg i0, hTy, hQ]
        have HC : Hid (Calls Tryz.prog 25 #[.pointer (some ⟨B, 0, none⟩), .agg #[.int .i64 y.kind, .string ⟨y.text.toArray⟩, .string ⟨y.other.toArray⟩, .int .i64 y.n, .int .i64 y.pl, .slice ka y.kids.length cp2]] wr fun e w' => e = .returned (.tuple #[]) ∧ Bld B ((acc ++ wv (p :: ps) (l.map shwX) i) ++ shwX y) w' ∧ Wr B wr w') :=
          HK.out.calls j y _ _ wr hy (HW.out.1.keep hs.out.2.1.1) hky hs.out.1 (by rw [List.length_append]; omega)
        have HL2 := Hid.intro hlen2
        clear hj hkr hbb hy hky hTy hlen2 HF hQ
        generalize y.kids.length = yl at *
        go_wp2_with fail
        refine HC.out.mono ?_
        rintro e w4 ⟨rfl, hbld, hwr⟩
        have k4 := (hs.out.2.2.1.wr hwr hsB).at (i := i) (by simp; omega)
        rw [HQ.out] at k4
        have HB4 : Hid (Bld B ((acc ++ wv (p :: ps) (l.map shwX) i) ++ shwX y) w4 ∧ Wr B wr w4) := ⟨hbld, hwr⟩
        clear hbld hwr HC
        go_wp2_with fail
        refine (wr_any B _ _ w4 HB4.out.1 ?_).mono ?_
        · have h1 := HL2.out
          rw [Lib.size_eq]
          simp only [List.length_append]
          simp at h1 ⊢
          omega
        rintro e w5 ⟨rfl, hbld, hwr⟩
        have HW5 : Hid (Wr B wr w5) := HB4.out.2.trans hwr
        have HB5 : Hid (Bld B (acc ++ wv (p :: ps) (l.map shwX) (i + 1)) w5) := by
          show Bld _ _ _
          rw [HY.out, ← List.append_assoc, ← List.append_assoc]
          exact hbld
        clear hbld hwr
        go_wp2_with fail
        go_roundw
        case rel => exact ⟨i + 1, by omega, by go_num, HB5.out, hs.out.2.1.trans HW5.out, hs.out.2.2.1.wr HW5.out hsB, hs.out.2.2.2.wr HW.out.2.2 HW5.out⟩
        case measure => simp [intOf]; omega
    · have c' : ¬ (i : Int) < (ps.length : Int) + 1 := by omega
      obtain rfl : i = ps.length + 1 := by omega
      go_wp2_with fail
      go_end0
      exact ⟨rfl, hs.out.1, hs.out.2.1⟩
end Go.Proofs.YtkljakeccfnakaaGreatDoor
