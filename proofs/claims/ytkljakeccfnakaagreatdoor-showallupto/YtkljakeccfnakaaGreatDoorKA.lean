/-
  A region that draws its order: its first n operations in whatever order, a condition being kept; those behind them wait for all of them and for one another, and are done one by one.
-/
import Derived.StillTail
import Derived.Deep.RegionHeld
namespace Go.Proofs.YtkljakeccfnakaaGreatDoor
section
variable {P : Program} {md : Region.Mode} {l : List Oper} {n : Nat} {Q : Exit → Act → World → Prop}

/-- Behind the head: the tail, one by one. -/
def tailQ (P : Program) (ops : Array Oper) (tl : List Oper) (Q : Exit → Act → World → Prop) : Exit → Act → World → Prop
  | .normal, a, w => wpList P ops Q tl a w
  | e, a, w => Q e a w
/-- No guards; each of the first n waits for earlier ones alone. -/
def ordB (md : Region.Mode) (l : List Oper) (n : Nat) : Bool :=
  l.all (fun o => o.guard.isNone) && (List.range n).all fun j => ((l[j]?).map fun o => o.after.all fun e => !Region.binds md e || decide (e.on < j)).getD true
def headTailB (md : Region.Mode) (l : List Oper) (n : Nat) : Bool :=
  decide (n < l.length) && Region.sinkB md l.toArray n && Region.chainB md l.toArray n && ordB md l n && Region.seqB md l.toArray (l.length - n) n ((List.range l.length).map fun i => decide (i < n)).toArray

theorem getD_ext {listed : Array Bool} {k : Nat} (hk : k < n) (hn : n ≤ listed.size) (d : Bool) : (listed.extract 0 n).getD k d = listed.getD k d := by
  have h1 : k < (listed.extract 0 n).size := by simp; omega
  have h2 : k < listed.size := by omega
  have h3 : k < min n listed.size := by omega
  simp [Array.getD, h2, h3]
theorem getD_extF {ops : Array Oper} {listed : Array Bool} (hn : n < ops.size) (inv : HeadInv md ops n listed) (k : Nat) : (listed.extract 0 n).getD k false = listed.getD k false := by
  rcases Nat.lt_or_ge k n with h | h
  · exact getD_ext h (by rw [inv.size]; omega) _
  · have h1 : (listed.extract 0 n).getD k false = false := by
      have : ¬ k < (listed.extract 0 n).size := by simp; omega
      simp [Array.getD]; intro h2; omega
    rw [h1]
    rcases Nat.lt_or_ge k ops.size with h2 | h2
    · exact (getD_both (inv.tail k h h2)).symm
    · have : ¬ k < listed.size := by rw [inv.size]; omega
      simp [Array.getD, this]
theorem take_at {j : Nat} (hj : j < n) : (l.take n).toArray[j]? = l.toArray[j]? := by simp [hj]
theorem ready_head {listed : Array Bool} (hn : n < l.length) (inv : HeadInv md l.toArray n listed) (j : Nat) : j ∈ Region.ready md (l.take n).toArray (listed.extract 0 n) ↔ j < n ∧ j ∈ Region.ready md l.toArray listed := by
  have hs : n ≤ listed.size := by rw [inv.size]; simp; omega
  constructor
  · intro h
    obtain ⟨h0, o, ho, hall⟩ := mem_ready.1 h
    have hj : j < n := by
      have := (Array.getElem?_eq_some_iff.1 ho).1
      simp at this; omega
    rw [getD_ext hj hs] at h0
    rw [take_at hj] at ho
    exact ⟨hj, mem_ready.2 ⟨h0, o, ho, fun e he hb => by rw [← getD_extF (by simpa using hn) inv]; exact hall e he hb⟩⟩
  · rintro ⟨hj, h⟩
    obtain ⟨h0, o, ho, hall⟩ := mem_ready.1 h
    exact mem_ready.2 ⟨by rw [getD_ext hj hs]; exact h0, o, by rw [take_at hj]; exact ho, fun e he hb => by rw [getD_extF (by simpa using hn) inv]; exact hall e he hb⟩
theorem ext_set {listed : Array Bool} {i : Nat} : (listed.extract 0 n).setIfInBounds i true = (listed.setIfInBounds i true).extract 0 n := by
  apply Array.ext
  · simp
  · intro k h1 h2
    have a1 : k < (listed.extract 0 n).size := by simpa using h1
    have a2 : k < listed.size := by simp at a1; omega
    have a3 : k < (listed.setIfInBounds i true).size := by simpa using a2
    rw [Array.getElem_extract]
    simp only [Nat.zero_add]
    rw [Array.getElem_setIfInBounds (hj := a1), Array.getElem_setIfInBounds (hj := a2)]
    simp
theorem all_listed {listed : Array Bool} (hn : n < l.length) (ho : ordB md l n = true) (inv : HeadInv md l.toArray n listed) (hr : Region.ready md (l.take n).toArray (listed.extract 0 n) = []) : ∀ j, j < n → listed.getD j false = true := by
  intro j
  induction j using Nat.strongRecOn with
  | _ j ih =>
    intro hj
    cases hl : listed.getD j false with
    | true => rfl
    | false =>
      exfalso
      have hjs : j < listed.size := by rw [inv.size]; simp; omega
      have hjl : j < l.length := by omega
      have hm : j ∈ Region.ready md l.toArray listed := mem_ready.2 ⟨getD_in hjs hl, l[j], by simp, fun e he hb => by
        unfold ordB at ho
        simp only [Bool.and_eq_true] at ho
        have h1 := List.all_eq_true.1 ho.2 j (List.mem_range.2 hj)
        rw [List.getElem?_eq_getElem hjl] at h1
        simp only [Option.map_some, Option.getD_some] at h1
        have h2 := Array.all_eq_true_iff_forall_mem.1 h1 e he
        rw [hb] at h2
        have h3 : e.on < j := by simpa using h2
        exact ih e.on h3 (by omega)⟩
      have := (ready_head hn inv j).2 ⟨hj, hm⟩
      rw [hr] at this
      cases this
theorem listed_is {listed : Array Bool} (inv : HeadInv md l.toArray n listed) (ha : ∀ j, j < n → listed.getD j false = true) : listed = ((List.range l.length).map fun i => decide (i < n)).toArray := by
  apply Array.ext
  · rw [inv.size]; simp
  · intro k h1 h2
    have hk : k < l.length := by rw [inv.size] at h1; simpa using h1
    rcases Nat.lt_or_ge k n with h | h
    · have := ha k h
      simp [Array.getD, h1] at this
      rw [this]; simp [h]
    · have := inv.tail k h (by simpa using hk)
      simp [Array.getD, h1] at this
      rw [this]; simp; omega
theorem wpAny_more {ops : Array Oper} : ∀ (f : Nat) (listed : Array Bool) (a : Act) (w : World), wpAny P md ops Q f listed a w → wpAny P md ops Q (f + 1) listed a w
  | 0, _, _, _, h => ⟨fun _ => h.2, fun i hi => by rw [h.1] at hi; cases hi⟩
  | f + 1, _, _, _, h => ⟨h.1, fun i hi => wpOp_mono (fun a' w' h' => wpAny_more f _ a' w' h') (h.2 i hi)⟩
theorem wpAny_moreN {ops : Array Oper} {g : Nat} {listed : Array Bool} {a : Act} {w : World} (h : wpAny P md ops Q g listed a w) : ∀ f, wpAny P md ops Q (f + g) listed a w
  | 0 => by rw [Nat.zero_add]; exact h
  | f + 1 => by rw [show f + 1 + g = (f + g) + 1 by omega]; exact wpAny_more _ _ _ _ (wpAny_moreN h f)
theorem Oper.wp_tail {o : Oper} {a : Act} {w : World} {ops : Array Oper} {tl : List Oper} {K K' : Act → World → Prop} (h : ∀ a w, K a w → K' a w)
    (hh : o.wp P a w K (tailQ P ops tl Q)) : o.wp P a w K' Q := by
  unfold Oper.wp at *
  generalize (execOp a.eval o).run P w = r at *
  cases r with
  | ok m w' =>
    cases m <;> simp only [Oper.upon] at hh ⊢ <;>
      first
        | exact h _ _ hh
        | exact Calls.mono hh (fun e w'' he => by cases e <;> first | exact h _ _ he | exact he)
        | exact Rows.mono hh (fun _ _ he => h _ _ he)
  | halt x w' => cases x <;> simp only [Oper.upon] at hh ⊢ <;> exact hh
theorem wpOp_tail {i : Nat} {a : Act} {w : World} {K K' : Act → World → Prop} (hg : l.all (fun o => o.guard.isNone) = true) (hi : i < n) (hil : i < l.length) (h : ∀ a w, K a w → K' a w)
    (hh : wpOp P (l.take n).toArray (tailQ P l.toArray (l.drop n) Q) i K a w) : wpOp P l.toArray Q i K' a w := by
  have ho : l.toArray[i]? = some l[i] := by simp
  have hG : l[i].guard = none := by
    have := List.all_eq_true.1 hg l[i] (List.getElem_mem hil)
    simpa using this
  unfold wpOp at *
  rw [take_at hi] at hh
  simp only [ho] at *
  have w1 : ∀ y, Region.wanted l[i] y = true := fun y => by unfold Region.wanted; rw [hG]
  rw [w1] at *
  simp only [if_true] at *
  exact hh.imp (Oper.wp_tail h) id
theorem wpAny_headTail (hB : headTailB md l n = true) : ∀ (fuel : Nat) (listed : Array Bool) (a : Act) (w : World), HeadInv md l.toArray n listed →
    wpAny P md (l.take n).toArray (tailQ P l.toArray (l.drop n) Q) fuel (listed.extract 0 n) a w → wpAny P md l.toArray Q (fuel + (l.length - n)) listed a w := by
  simp only [headTailB, Bool.and_eq_true, decide_eq_true_eq] at hB
  obtain ⟨⟨⟨⟨hn, hs⟩, hc⟩, ho⟩, hq⟩ := hB
  have hg : l.all (fun o => o.guard.isNone) = true := by unfold ordB at ho; simp only [Bool.and_eq_true] at ho; exact ho.1
  have fin : ∀ (fuel : Nat) (listed : Array Bool) (a : Act) (w : World), HeadInv md l.toArray n listed → Region.ready md (l.take n).toArray (listed.extract 0 n) = [] →
      wpList P l.toArray Q (l.drop n) a w → wpAny P md l.toArray Q (fuel + (l.length - n)) listed a w := by
    intro fuel listed a w inv hr h
    have e := listed_is inv (all_listed hn ho inv hr)
    have hd : (l.drop n).length = l.length - n := by simp
    refine wpAny_moreN ?_ fuel
    have := wpAny_of_seq (md := md) (Q' := Q) (l.drop n) n listed a w (fun j => by simp [List.getElem?_drop]) (by rw [hd, e]; exact hq) h
    rwa [hd] at this
  intro fuel
  induction fuel with
  | zero => intro listed a w inv h; exact fin 0 listed a w inv h.1 h.2
  | succ f ih =>
    intro listed a w inv h
    by_cases hr : Region.ready md (l.take n).toArray (listed.extract 0 n) = []
    · exact fin _ listed a w inv hr (h.1 hr)
    · obtain ⟨i0, hi0⟩ := List.exists_mem_of_ne_nil _ hr
      have hi0' := (ready_head hn inv i0).1 hi0
      rw [show f + 1 + (l.length - n) = (f + (l.length - n)) + 1 by omega]
      refine ⟨fun h0 => (by rw [h0] at hi0'; cases hi0'.2), fun i hi => ?_⟩
      have hin : i < n := by
        rcases Nat.lt_or_ge i n with h' | h'
        · exact h'
        · exact absurd hi (tail_waits hs hc (by simpa using hn) inv _ i0 rfl hi0'.1 (mem_ready.1 hi0'.2).1 i h')
      refine wpOp_tail hg hin (by omega) (fun a' w' h' => ih _ a' w' (inv.set hi hin) ?_) (h.2 i ((ready_head hn inv i).2 ⟨hin, hi⟩))
      rw [← ext_set]; exact h'
/-- The law. -/
theorem wp_region_held_tail {id : Nat} {a : Act} {w : World} {S : World → Prop} (n : Nat) (hm : P.follows .mixedOrders = true) (hB : headTailB .any l n = true) (hS : S w.drew)
    (h : S w.drew → wpAnyH P .any (l.take n).toArray (tailQ P l.toArray (l.drop n) Q) S n (Array.replicate n false) a w.drew) : (Code.region id l.toArray true).wp P Q a w := by
  refine wp_region_any hm ?_
  have hn : n < l.length := by simp only [headTailB, Bool.and_eq_true, decide_eq_true_eq] at hB; exact hB.1.1.1.1
  have inv0 : HeadInv .any l.toArray n (Array.replicate l.toArray.size false) :=
    ⟨by simp, fun j oj _ hl => (by rw [getD_replicate_false] at hl; cases hl), fun t _ ht => getD_in (by simpa using ht) (getD_replicate_false _ _)⟩
  have := wpAny_headTail hB n (Array.replicate l.toArray.size false) a w.drew inv0 (by
    rw [show (Array.replicate l.toArray.size false).extract 0 n = Array.replicate n false by simp; omega]
    exact wpAny_of_held _ _ _ _ (h hS))
  rw [show n + (l.length - n) = l.toArray.size by simp; omega] at this
  exact this
end
end Go.Proofs.YtkljakeccfnakaaGreatDoor
